/- What the law rests on: part 9. -/
import Derived.OrdersHeld
import Derived.Test.YtedabomlfcghoaaGreatKG8
set_option linter.unusedVariables false
namespace Go.Proofs.YtedabomlfcghoaaGreat
set_option maxRecDepth 100000
open Go.RowKit
theorem Zby(a:PA)(A:List PA)(s:DS):runA (a :: A) s=if s.ok=true then runA A (a.run s) else (2,s.pay):=rfl
theorem Zbz:∀ (A B:List PA) (s:DS),runA (A ++ B) s=if (runA A s).1=0 then runA B (runA A s).2 else runA A s
 |[],B,s=>by
  show runA B s=if (0:Int)=0 then runA B s else _
  rw[if_pos rfl]
 |a :: A,B,s=>by
  rw[List.cons_append,Zby,Zby];by_cases h:s.ok=true
  . rw[if_pos h,if_pos h];exact Zbz A B _
  . rw[if_neg h,if_neg h,if_neg (by show ¬ (2:Int)=0;decide)]
theorem Zer{X:List PA}{a:PA}{s:DS}(h:(runA X s).1=0)(hok:(runA X s).2.ok=true):runA (X ++ [a]) s=(0,a.run (runA X s).2):=by
 rw[Zbz,if_pos h,Zby,if_pos hok];rfl
theorem runA_stop{X Y:List PA}{a:PA}{s:DS}(h:(runA X s).1=0)(hok:(runA X s).2.ok=false):runA (X ++ a :: Y) s=(2,(runA X s).2.pay):=by
 rw[Zbz,if_pos h,Zby,if_neg (by rw[hok];decide)]
theorem Zdw:∀ (A:List PA) (s:DS),(runA A s).2.F.length=s.F.length/\(runA A s).2.U.length<=s.U.length+A.length
 |[],s=>⟨rfl,Nat.le_refl _⟩
 |a :: A,s=>by
  unfold runA;by_cases h:s.ok=true
  . rw[if_pos h]
    obtain⟨h1,h2⟩:=Zdw A (a.run s);cases a with
    |w n l=>
     have e1:(PA.run s (.w n l)).F.length=s.F.length:=rfl;have e2:(PA.run s (.w n l)).U.length=s.U.length+1:=by show(s.U ++ [(n,l)]).length=_;simp
     exact⟨h1.trans e1,by simp only[List.length_cons];omega⟩
    |f=>
     have e1:(PA.run s .f).F.length=s.F.length:=DS.vis_length s;have e2:(PA.run s .f).U.length=0:=rfl;exact⟨h1.trans e1,by simp only[List.length_cons];omega⟩
  . rw[if_neg h]
    exact⟨rfl,Nat.le_add_right _ _⟩
def RunQ(A:List PA)(w:World)(P:Nat->Prop)(p:Value)(s:DS)(e:Ending)(w':World):Prop:=
 e=.returned (.int .i64 (runA A s).1)/\∃ P',Dk w' P' p (runA A s).2/\Chg P P' w w'
theorem RunQ.stop{X Y:List PA}{a:PA}{w W:World}{P P':Nat->Prop}{p:Value}{s:DS}(h:(runA X s).1=0)(hok:(runA X s).2.ok=false)(hd:Dk W P' p (runA X s).2.pay)(hc:Chg P P' w W):RunQ (X ++ a :: Y) w P p s (.returned (.int .i64 2)) W:=by
 unfold RunQ;rw[runA_stop h hok];exact⟨rfl,P',hd,hc⟩
theorem RunQ.done{X:List PA}{w W:World}{P P':Nat->Prop}{p:Value}{s:DS}(h:(runA X s).1=0)(hd:Dk W P' p (runA X s).2)(hc:Chg P P' w W):RunQ X w P p s (.returned (.int .i64 0)) W:=by
 unfold RunQ;rw[h];exact⟨rfl,P',hd,hc⟩
theorem Chg.cell{P P':Nat->Prop}{w w':World}(h:Chg P P' w w'){g i:Nat}(hg:g<w.heap.size)(hn:¬ P g):w'.cell? ⟨g,i,none⟩=w.cell? ⟨g,i,none⟩:=
 World.cell?_of_block (a:=⟨g,i,none⟩) (h.keep g hg hn).1
theorem homeA_get(N:List Int)(D:List (List Int))(k:Nat)(hk:k<N.length):Zap N D=(Zap N D).take k ++ .w (N.getD k 0).toNat (D.getD k []) :: (Zap N D).drop (k+1)/\(Zap N D).take (k+1)=(Zap N D).take k ++ [.w (N.getD k 0).toNat (D.getD k [])]:=by
 have hl:k<(Zap N D).length:=by rw[Zcy];exact hk
 have e:(Zap N D)[k]=.w (N.getD k 0).toNat (D.getD k []):=by simp[Zap,Zat]
 refine⟨?_,?_⟩
 . rw[<- e,List.getElem_cons_drop,List.take_append_drop]
 . rw[List.take_succ_eq_append_getElem hl,e]
section
variable {w:World}{P:Nat->Prop}{p:Value}{s:DS}
set_option maxHeartbeats 1000000 in
theorem gHome_yes(h:Dk w P p s){v:Value}{q:Int}{N:List Int}{D:List (List Int)}(hv:TxVa w P v q N D)(hB:Zfe s.F.length N D=true)(hU:s.U.length<=900000):
 Calls Tryz.prog 123 #[p,v] w (RunQ (Zap N D) w P p s):=by
 have hv':=hv;obtain⟨no,nc,ao,dc,rfl,hN,hD⟩:=hv;have hB':=hB;unfold Zfe at hB';rw[Bool.and_eq_true,Bool.and_eq_true] at hB';obtain⟨_,hF,hH⟩:=hB';obtain⟨f1,f2,f3⟩:=Zct hF;have hH':=(Zkf _ _).1 hH;have KT:=hid (fun W (hb:Below w.heap.size w W)=>gTakes_is (h.below hb) (hv'.v.below hb) true hB);have hlt:=fun k hk=>h.lt k hk
 have HD0:=hid (fun W (hb:Below w.heap.size w W)=>h.below hb);have hlen:=fun k=>Zdw ((Zap N D).take k) s
 have KW:=hid (fun k (hk:k<N.length) W Pk (hd:Dk W Pk p (runA ((Zap N D).take k) s).2) v (hv:BSl W v (D.getD k []))=>kWrite hd (N.getD k 0).toNat (by
  have h1:=hH' k hk;have h2:=(f3 k hk).1;have h3:=(hlen k).1;omega) hv (f3 k hk).2.1 (by
  have h1:=(hlen k).2;rw[List.length_take,Zcy] at h1;omega))
 have HNK:=hid (fun k (hk:k<N.length)=>show N.getD k 0=((N.getD k 0).toNat:Int) by have:=(f3 k hk).1;omega);have HL:=hid (fun k (hk:k<N.length)=>(f3 k hk).2.1);have HNC:=hid (fun W P' (hc:Chg P P' w W)=>(hN.1.1.chg hN.2 hc).1.open');have HDC:=hid (fun W P' (hc:Chg P P' w W)=>(hD.chg hc).sl.open');have HG:=hid (fun k hk=>homeA_get N D k hk);have HFULL:Hid ((Zap N D).take N.length=Zap N D):=hid (List.take_of_length_le (by rw[Zcy];exact Nat.le_refl _));obtain⟨bp,rfl⟩:=h.ptr;obtain⟨A,hA⟩:∃ A,A=Zap N D:=⟨_,rfl⟩;rw[<- hA] at KW HG HFULL |-
 obtain⟨n,hn⟩:∃ n,n=N.length:=⟨_,rfl⟩;have hmn:D.length=n:=f2.trans hn.symm;rw[<- hn] at KT KW HNK HL HNC HG HFULL f1 |-
 rw[hmn] at KT HDC |-
 have hbx:=Zaa w (.cells #[.int .u32 q,.slice no n nc,.slice ao n dc] 183);have hnx:=heap_alloc_new w (.cells #[.int .u32 q,.slice no n nc,.slice ao n dc] 183);clear h hN hD hv' hB hF hH hH' hlen f2 f3 hA hn hmn;go_enter Tryz.func123,Tryz.ntmps123;go_upto_region 1 with(fail)
 generalize w.alloc (.cells #[.int .u32 q,.slice no n nc,.slice ao n dc] 183)=u at hbx hnx |-
 have KT1:=hid (KT.out _ hbx);have d0:u.cell? ⟨w.heap.size,0,none⟩=some (.int .u32 q):=by rw[cell_of_row _ _ _ _ _ _ hnx];rfl
 have d1:u.cell? ⟨w.heap.size,1,none⟩=some (.slice no n nc):=by rw[cell_of_row _ _ _ _ _ _ hnx];rfl
 have d2:u.cell? ⟨w.heap.size,2,none⟩=some (.slice ao n dc):=by rw[cell_of_row _ _ _ _ _ _ hnx];rfl
 have hzu:w.heap.size<u.heap.size:=(Array.getElem?_eq_some_iff.1 hnx).1;obtain⟨d,hd⟩:∃ d,d=w.heap.size:=⟨_,rfl⟩;have HND:Hid (¬ P d):=hid (fun hp=>by have:=hlt _ hp;omega);have HBX:=hid hbx;rw[<- hd] at d0 d1 d2 hzu |-
 clear hnx KT hbx hlt hd
 go_wp2_with (go_at_call 161;(with_reducible refine KT1.out.mono ?_);rintro e w2 ⟨rfl,hb2⟩
              have HB2:=hid (HBX.out.trans (hb2.mono HBX.out.size));have g1:=(hb2.cell (p:=⟨d,1,none⟩) hzu).trans d1;have g2:=(hb2.cell (p:=⟨d,2,none⟩) hzu).trans d2;have hz2:=Nat.lt_of_lt_of_le hzu hb2.size;clear hb2)
 have HC1:=hid (fun W P' (hc:Chg P P' w2 W)=>(hc.cell (i:=1) hz2 HND.out).trans g1);have HC2:=hid (fun W P' (hc:Chg P P' w2 W)=>(hc.cell (i:=2) hz2 HND.out).trans g2);have HCW:=hid (fun W P' (hc:Chg P P' w2 W)=>(Chg.of_below (P:=P) HB2.out).trans hc);have HST:Hid (∃ Pk,Dk w2 Pk (.pointer (some ⟨bp,0,none⟩)) (runA (A.take 0) s).2/\Chg P Pk w2 w2):=hid ⟨P,HD0.out _ HB2.out,Chg.refl P w2⟩;clear g1 g2 hz2 d0 d1 d2 hzu KT1;go_loopw [15] (fun i wr=>∃ k:Nat,k<=n/\i=.int .i64 k/\Hid ((runA (A.take k) s).1=0)/\Hid (∃ Pk,Dk wr Pk (.pointer (some ⟨bp,0,none⟩)) (runA (A.take k) s).2/\Chg P Pk w2 wr)) (fun i _=>n-(intOf i).toNat)
 case atStart=>exact⟨0,by omega,rfl,hid (by rw[List.take_zero];rfl),HST⟩
 case round=>
  obtain⟨k,hk,rfl,HR,HS⟩:=hrel;clear HST;obtain⟨Pk,hdk,hck⟩:=HS.out;by_cases hlt:k<n
  . have y1:=HC1.out _ _ hck
    have y2:=HC2.out _ _ hck;obtain⟨no',nc',e1,q1⟩:=HNC.out _ _ (HCW.out _ _ hck);obtain⟨rfl,rfl⟩:=And.intro (Value.slice.inj e1).1 (Value.slice.inj e1).2.2;obtain⟨b1,o1,rfl,_,c1⟩:=q1 (by omega);have z1:=c1 k hlt;rw[HNK.out k hlt] at z1;obtain⟨ao',dc',e2,_,q2⟩:=HDC.out _ _ (HCW.out _ _ hck);obtain⟨rfl,rfl⟩:=And.intro (Value.slice.inj e2).1 (Value.slice.inj e2).2.2;obtain⟨b2,o2,rfl,_,c2⟩:=q2 (by omega);obtain⟨x,z2,hx⟩:=c2 k hlt;have KC:=hid (KW.out k hlt _ _ hdk _ hx);obtain⟨xo,xc,rfl,_⟩:=hx.shape;rw[HL.out k hlt] at z2 KC;have ek:(k:Int)<(n:Int):=by omega
    have HGK:=hid (HG.out k hlt);obtain⟨x1,hx1⟩:∃ x1,x1=(N.getD k 0).toNat:=⟨_,rfl⟩;rw[<- hx1] at z1 KC HGK;clear hx1;have HCK:=hid hck;clear e1 e2 q1 q2 c1 c2 hx hdk hck;cases hok:(runA (A.take k) s).2.ok
    . rw[hok,if_neg Bool.false_ne_true,if_neg Bool.false_ne_true] at KC
      have HOK:=hid hok;clear hok;go_wp2_with (go_at_call 164;(with_reducible refine KC.out.mono ?_);rintro e w3 ⟨rfl,P3,hd3,hc3⟩)
      go_ret;rw[HGK.out.1];exact RunQ.stop HR.out HOK.out hd3 (HCW.out _ _ (HCK.out.trans hc3))
    . rw[hok,if_pos rfl,if_pos rfl] at KC
      have HOK:=hid hok;clear hok;go_wp2_with (go_at_call 164;(with_reducible refine KC.out.mono ?_);rintro e w3 ⟨rfl,P3,hd3,hc3⟩)
      go_roundw
      case rel=>
       have e5:=HGK.out.2;refine⟨k+1,by omega,by go_num,hid ?_,hid ⟨P3,?_,HCK.out.trans hc3⟩⟩
       . rw[e5,Zer HR.out HOK.out]
       . rw[e5,Zer HR.out HOK.out];exact hd3
      case measure=>simp[intOf];omega
  . obtain rfl:k=n:=by omega
    clear HG;go_wp2;go_ret;rw[HFULL.out] at HR HS;obtain⟨Pk,hdk,hck⟩:=HS.out;exact RunQ.done HR.out hdk (HCW.out _ _ hck)
end
def wsS(at':Nat)(bs:List (List Int)):List PA:=(List.range bs.length).map fun i=>.w (at'+i) (bs.getD i [])
def layS(St:List (Nat × List (List Int))):List PA:=St.flatMap fun x=>wsS x.1 x.2 ++ [.f]
theorem Zfs(at':Nat)(bs:List (List Int)):(wsS at' bs).length=bs.length:=by simp[wsS]
theorem wsS_get(at':Nat)(bs:List (List Int))(k:Nat)(hk:k<bs.length):wsS at' bs=(wsS at' bs).take k ++ .w (at'+k) (bs.getD k []) :: (wsS at' bs).drop (k+1)/\(wsS at' bs).take (k+1)=(wsS at' bs).take k ++ [.w (at'+k) (bs.getD k [])]:=by
 have hl:k<(wsS at' bs).length:=by rw[Zfs];exact hk
 have e:(wsS at' bs)[k]=.w (at'+k) (bs.getD k []):=by simp[wsS]
 refine⟨?_,?_⟩
 . rw[<- e,List.getElem_cons_drop,List.take_append_drop]
 . rw[List.take_succ_eq_append_getElem hl,e]
theorem layS_append(A B:List (Nat × List (List Int))):layS (A ++ B)=layS A ++ layS B:=List.flatMap_append
theorem Zgf(x:Nat × List (List Int))(B:List (Nat × List (List Int))):layS (x :: B)=wsS x.1 x.2 ++ [.f] ++ layS B:=List.flatMap_cons
theorem layS_nil:layS []=[]:=rfl
theorem layS_get(St:List (Nat × List (List Int)))(j:Nat)(hj:j<St.length):
 layS St=layS (St.take j) ++ (wsS (St.getD j (0,[])).1 (St.getD j (0,[])).2 ++ [.f] ++ layS (St.drop (j+1)))/\
 layS (St.take (j+1))=layS (St.take j) ++ (wsS (St.getD j (0,[])).1 (St.getD j (0,[])).2 ++ [.f]):=by
 have e:St.getD j (0,[])=St[j]:=by simp[List.getD_eq_getElem?_getD,hj]
 rw[e];refine⟨?_,?_⟩
 . conv=>lhs;rw[<- List.take_append_drop j St]
   rw[List.drop_eq_getElem_cons hj,layS_append,Zgf]
 . rw[List.take_succ_eq_append_getElem hj,layS_append,Zgf,layS_nil,List.append_nil]
def cntS(St:List (Nat × List (List Int))):Nat:=(layS St).length
theorem sizeS2:(Tryz.prog.info? 234).map (·.size)=some 2:=by kernel_rfl
theorem wpList_store_s2{ops:Array Oper}{rest:List Oper}{o:Oper}{a:Act}{w:World}{Q:Exit->Act->World->Prop}(hgd:o.guard=none)(ty:TypeId)(hi:(Tryz.prog.info? ty).map (·.size)=some 2)(x y:Operand)(ho:o.op=.store ty x y)
 (g:Nat) (hx:a.eval x=.pointer (some ⟨g,0,none⟩)) (p q p' q':Value) (hy:a.eval y=.agg #[p,q]) (hp:p.oneCell'=true) (hq:q.oneCell'=true) (T:TypeId) (hg:w.heap[g]? =some (.cells #[p',q'] T (0,0)))
 (h:∀ w',Wrote w w' g->w'.heap[g]? =some (.cells #[p,q] T (0,0))->wpList Tryz.prog ops Q rest (a.put o.dst undef) w'):wpList Tryz.prog ops Q (o :: rest) a w:=
 wpList_store_row hgd ty x y ho g #[p,q] hx hy T _ hg hi rfl (by simp[hp,hq]) (h _ (Wrote.setRow _ _ _) (setRow_heap _ _ _ _ _ _ hg))
def StSl(w:World)(P:Nat->Prop)(b off:Nat)(St:List (Nat × List (List Int))):Prop:=
 b<w.heap.size/\¬ P b/\∀ j,j<St.length->∃ ao dc,w.cell? ⟨b,off+j*2,none⟩=some (.int .i64 ((St.getD j (0,[])).1:Nat))/\w.cell? ⟨b,off+j*2+1,none⟩=some (.slice ao (St.getD j (0,[])).2.length dc)/\
  BBa w P (.slice ao (St.getD j (0,[])).2.length dc) (St.getD j (0,[])).2
theorem StSl.chg{w w':World}{P P':Nat->Prop}{b off:Nat}{St:List (Nat × List (List Int))}(h:StSl w P b off St)(hc:Chg P P' w w'):StSl w' P' b off St:=by
 obtain⟨h1,h2,h3⟩:=h;refine⟨Nat.lt_of_lt_of_le h1 hc.size,(hc.keep b h1 h2).2,fun j hj=>?_⟩;obtain⟨ao,dc,m1,m2,m3⟩:=h3 j hj;exact⟨ao,dc,(hc.cell h1 h2).trans m1,(hc.cell h1 h2).trans m2,m3.chg hc⟩
section
variable {w:World}{P:Nat->Prop}{p:Value}{s:DS}
set_option maxHeartbeats 2000000 in
theorem gLay_of(h:Dk w P p s){b off cap:Nat}{St:List (Nat × List (List Int))}(hs:StSl w P b off St)(hU:s.U.length<=900000)(hSt:cntS St<=1000)(hn4:St.length<=1000)
 (hok:∀ j,j<St.length->∀ i,i<(St.getD j (0,[])).2.length->(St.getD j (0,[])).1+i<s.F.length/\((St.getD j (0,[])).2.getD i []).length=256) (hat:∀ j,j<St.length->(St.getD j (0,[])).1<=1000/\(St.getD j (0,[])).2.length<=1000):
 Calls Tryz.prog 163 #[p,.slice (some ⟨b,off,none⟩) St.length cap] w (RunQ (layS St) w P p s):=by
 have hlen:=fun A=>Zdw A s
 have hpre:∀ j,j<St.length->(layS (St.take j)).length+(St.getD j (0,[])).2.length+1<=1000:=fun j hj=>by
  have:=congrArg List.length (layS_get St j hj).1;simp only[List.length_append,Zfs,List.length_cons,List.length_nil] at this;unfold cntS at hSt;omega
 have KW:=hid (fun j (hj:j<St.length) i (hi:i<(St.getD j (0,[])).2.length) W Pk (hd:Dk W Pk p (runA (layS (St.take j) ++ (wsS (St.getD j (0,[])).1 (St.getD j (0,[])).2).take i) s).2) v (hv:BSl W v ((St.getD j (0,[])).2.getD i []))=>kWrite hd ((St.getD j (0,[])).1+i) (by
  have h1:=(hok j hj i hi).1;have h3:=(hlen (layS (St.take j) ++ (wsS (St.getD j (0,[])).1 (St.getD j (0,[])).2).take i)).1;omega) hv (hok j hj i hi).2 (by
  have h1:=(hlen (layS (St.take j) ++ (wsS (St.getD j (0,[])).1 (St.getD j (0,[])).2).take i)).2;have h2:=hpre j hj;rw[List.length_append,List.length_take,Zfs] at h1;omega))
 have KF:=hid (fun j (hj:j<St.length) W Pk (hd:Dk W Pk p (runA (layS (St.take j) ++ wsS (St.getD j (0,[])).1 (St.getD j (0,[])).2) s).2)=>kFlush hd (by
  have h1:=(hlen (layS (St.take j) ++ wsS (St.getD j (0,[])).1 (St.getD j (0,[])).2)).2;have h2:=hpre j hj;rw[List.length_append,Zfs] at h1;omega))
 have HGT:=hid (fun j hj=>layS_get St j hj);have HL:=hid (fun j (hj:j<St.length) i (hi:i<(St.getD j (0,[])).2.length)=>(hok j hj i hi).2);have HAT:=hid hat;have HS:=hid (fun W P' (hc:Chg P P' w W)=>hs.chg hc);have HD0:=hid (fun W (hb:Below w.heap.size w W)=>h.below hb);have HST:Hid (∃ Pk,Dk w Pk p (runA (layS (St.take 0)) s).2/\Chg P Pk w w):=hid ⟨P,h,Chg.refl P w⟩;have HFULL:Hid (layS (St.take St.length)=layS St):=hid (by rw[List.take_length]);obtain⟨bp,rfl⟩:=h.ptr;obtain⟨A,hA⟩:∃ A,A=layS St:=⟨_,rfl⟩;rw[<- hA] at HGT HFULL |-
 obtain⟨n,hn⟩:∃ n,n=St.length:=⟨_,rfl⟩;rw[<- hn] at KW KF HGT HL HAT HFULL hn4 |-
 have HN:=hid hn;clear h hs hok hat hlen hpre hSt hU hA hn;go_enter Tryz.func163,Tryz.ntmps163;go_wp2;go_loopw [13] (fun t wr=>∃ j:Nat,j<=n/\t=.int .i64 j/\Hid ((runA (layS (St.take j)) s).1=0)/\Hid (∃ Pk,Dk wr Pk (.pointer (some ⟨bp,0,none⟩)) (runA (layS (St.take j)) s).2/\Chg P Pk w wr)) (fun t _=>n-(intOf t).toNat)
 case atStart=>exact⟨0,by omega,rfl,hid (by rw[List.take_zero];rfl),HST⟩
 case round=>
  obtain⟨j,hj,rfl,HR,HSJ⟩:=hrel;clear HST;obtain⟨Pk,hdk,hck⟩:=HSJ.out;by_cases hlt:j<n
  . obtain⟨hb,hnb,hcells⟩:=HS.out _ _ hck
    obtain⟨ao,dc,x0,x1,hbb⟩:=hcells j (by rw[<- HN.out];exact hlt);have hbl:=fun k hk=>hdk.lt k hk
    have HAJ:=HAT.out j hlt;have HGJ:=hid (HGT.out j hlt);have HLJ:=hid (HL.out j hlt);have KWJ:=hid (KW.out j hlt);have KFJ:=hid (KF.out j hlt);obtain⟨a,ha⟩:∃ a,a=(St.getD j (0,[])).1:=⟨_,rfl⟩;obtain⟨bs,hbs⟩:∃ bs,bs=(St.getD j (0,[])).2:=⟨_,rfl⟩;rw[<- ha] at x0 HAJ HGJ KWJ KFJ;rw[<- hbs] at x1 hbb HAJ HGJ HLJ KWJ KFJ;obtain⟨X,hX⟩:∃ X,X=layS (St.take j):=⟨_,rfl⟩;rw[<- hX] at hdk HR HGJ KWJ KFJ;obtain⟨m,hm⟩:∃ m,m=bs.length:=⟨_,rfl⟩;rw[<- hm] at x1 HAJ HLJ KWJ hbb;obtain⟨ha1,hm1⟩:=HAJ;have HWF:Hid ((wsS a bs).take m=wsS a bs):=hid (List.take_of_length_le (by rw[Zfs,hm];exact Nat.le_refl _));have HWG:=hid (fun i (hi:i<m)=>wsS_get a bs i (by rw[<- hm];exact hi));have HBB:=hid (fun W P' (hc:Chg Pk P' wr W)=>by have:=(hbb.chg hc).sl.open';rw[<- hm] at this;exact this);have ej:(j:Int)<(n:Int):=by omega
    have HCK:=hid hck;have HDK:=hid hdk;have HBL:=hid hbl;have hnsx:=heap_alloc_new wr (.cells #[.int .i64 0,.slice none 0 0] 234);have hbsx:=Zaa wr (.cells #[.int .i64 0,.slice none 0 0] 234);clear hb hnb hcells hbb ha hbs hX hm hck hdk hbl
    go_wp2_with (with_reducible refine wpList_store_s2 rfl 234 sizeS2 (.tmp 6) (.tmp 16) rfl wr.heap.size rfl _ _ _ _ rfl rfl rfl _ hnsx ?_;intro w3 hw3 hr3
                 have HB3:=hid (hbsx.trans (hw3.below (Nat.le_refl _)));have y0:w3.cell? ⟨wr.heap.size,0,none⟩=some (.int .i64 (a:Nat)):=by rw[cell_of_row _ _ _ _ _ _ hr3];rfl
                 have y1:w3.cell? ⟨wr.heap.size,1,none⟩=some (.slice ao m dc):=by rw[cell_of_row _ _ _ _ _ _ hr3];rfl
                 have hz3:=(Array.getElem?_eq_some_iff.1 hr3).1;clear hnsx hbsx hw3 hr3)
    obtain⟨d,hd⟩:∃ d,d=wr.heap.size:=⟨_,rfl⟩;rw[<- hd] at y0 y1 hz3 |-
    have HND:Hid (¬ Pk d):=hid (fun hp=>by have:=HBL.out _ hp;omega);have HC0:=hid (fun W P' (hc:Chg Pk P' w3 W)=>(hc.cell (i:=0) hz3 HND.out).trans y0);have HCW:=hid (fun W P' (hc:Chg Pk P' w3 W)=>(Chg.of_below (P:=Pk) HB3.out).trans hc);have HSI:Hid (∃ Pi,Dk w3 Pi (.pointer (some ⟨bp,0,none⟩)) (runA (X ++ (wsS a bs).take 0) s).2/\Chg Pk Pi w3 w3):=hid ⟨Pk,by rw[List.take_zero,List.append_nil];exact HDK.out.below HB3.out,Chg.refl Pk w3⟩;have HRI:Hid ((runA (X ++ (wsS a bs).take 0) s).1=0):=hid (by rw[List.take_zero,List.append_nil];exact HR.out);clear x0 x1 y0 y1 hz3 hd;go_loopw [20] (fun t wi=>∃ i:Nat,i<=m/\t=.int .i64 i/\Hid ((runA (X ++ (wsS a bs).take i) s).1=0)/\Hid (∃ Pi,Dk wi Pi (.pointer (some ⟨bp,0,none⟩)) (runA (X ++ (wsS a bs).take i) s).2/\Chg Pk Pi w3 wi)) (fun t _=>m-(intOf t).toNat)
    case atStart=>exact⟨0,by omega,rfl,HRI,HSI⟩
    case round=>
     obtain⟨i,hi,rfl,HR2,HS2⟩:=hrel;clear HSI HRI;obtain⟨Pi,hdi,hci⟩:=HS2.out;by_cases hli:i<m
     . have y0:=HC0.out _ _ hci
       obtain⟨ao',dc',e2,_,q2⟩:=HBB.out _ _ (HCW.out _ _ hci);obtain⟨rfl,rfl⟩:=And.intro (Value.slice.inj e2).1 (Value.slice.inj e2).2.2;obtain⟨b2,o2,rfl,_,c2⟩:=q2 (by omega);obtain⟨x,z2,hx⟩:=c2 i hli;have KC:=hid (KWJ.out i hli _ _ hdi _ hx);obtain⟨xo,xc,rfl,_⟩:=hx.shape;rw[HLJ.out i hli] at z2 KC;have e3:((a+i:Nat):Int)=(a:Int)+(i:Int):=by push_cast;rfl
       rw[e3] at KC;have ei:(i:Int)<(m:Int):=by omega
       have HGI:=hid (HWG.out i hli);have HCI:=hid hci;clear e2 e3 q2 c2 hx hdi hci;cases hok:(runA (X ++ (wsS a bs).take i) s).2.ok
       . rw[hok,if_neg Bool.false_ne_true,if_neg Bool.false_ne_true] at KC
         have HOK:=hid hok;clear hok;go_wp2_with (go_at_call 164;(with_reducible refine KC.out.mono ?_);rintro e w5 ⟨rfl,P5,hd5,hc5⟩)
         go_ret;have e6:A=(X ++ (wsS a bs).take i) ++ .w (a+i) (bs.getD i []) :: ((wsS a bs).drop (i+1) ++ [.f] ++ layS (St.drop (j+1))):=by
          rw[HGJ.out.1]
          conv=>lhs;rw[HGI.out.1]
          simp only[List.append_assoc,List.cons_append]
         rw[e6];exact RunQ.stop HR2.out HOK.out hd5 (HCK.out.trans (HCW.out _ _ (HCI.out.trans hc5)))
       . rw[hok,if_pos rfl,if_pos rfl] at KC
         have HOK:=hid hok;clear hok;go_wp2_with (go_at_call 164;(with_reducible refine KC.out.mono ?_);rintro e w5 ⟨rfl,P5,hd5,hc5⟩)
         go_roundw
         case rel=>
          have e5:X ++ (wsS a bs).take (i+1)=(X ++ (wsS a bs).take i) ++ [.w (a+i) (bs.getD i [])]:=by rw[HGI.out.2,List.append_assoc]
          refine⟨i+1,by omega,by go_num,hid ?_,hid ⟨P5,?_,HCI.out.trans hc5⟩⟩
          . rw[e5,Zer HR2.out HOK.out]
          . rw[e5,Zer HR2.out HOK.out];exact hd5
         case measure=>simp[intOf];omega
     . obtain rfl:i=m:=by omega
       rw[HWF.out] at hdi HR2;have KC:=hid (KFJ.out _ _ hdi);have HCI:=hid hci;clear hdi hci;cases hok:(runA (X ++ wsS a bs) s).2.ok
       . rw[hok,if_neg Bool.false_ne_true,if_neg Bool.false_ne_true] at KC
         have HOK:=hid hok;clear hok;go_wp2_with (go_at_call 124;(with_reducible refine KC.out.mono ?_);rintro e w5 ⟨rfl,P5,hd5,hc5⟩)
         go_ret;have e6:A=(X ++ wsS a bs) ++ .f :: layS (St.drop (j+1)):=by
          rw[HGJ.out.1];simp only[List.append_assoc,List.cons_append,List.nil_append]
         rw[e6];exact RunQ.stop HR2.out HOK.out hd5 (HCK.out.trans (HCW.out _ _ (HCI.out.trans hc5)))
       . rw[hok,if_pos rfl,if_pos rfl] at KC
         have HOK:=hid hok;clear hok;go_wp2_with (go_at_call 124;(with_reducible refine KC.out.mono ?_);rintro e w5 ⟨rfl,P5,hd5,hc5⟩)
         go_roundw
         case rel=>
          have e5:layS (St.take (j+1))=(X ++ wsS a bs) ++ [.f]:=by rw[HGJ.out.2,List.append_assoc]
          refine⟨j+1,by omega,by go_num,hid ?_,hid ⟨P5,?_,HCK.out.trans (HCW.out _ _ (HCI.out.trans hc5))⟩⟩
          . rw[e5,Zer HR2.out HOK.out]
          . rw[e5,Zer HR2.out HOK.out];exact hd5
         case measure=>simp[intOf];omega
  . obtain rfl:j=n:=by omega
    clear HGT;go_wp2;go_ret;rw[HFULL.out] at HR HSJ;obtain⟨Pk,hdk,hck⟩:=HSJ.out;exact RunQ.done HR.out hdk hck
end
def Zdn(q:Int)(N:List Int)(D:List (List Int)):List (Nat × List Int):=(List.range (D.length+1)).map fun i=>(3+i,(Zal (Zaz q N) :: D).getD i [])
def strT(q:Int)(N:List Int)(D:List (List Int)):List (Nat × List (List Int)):=[(0,[]),(42,[z256]),(3,Zal (Zaz q N) :: D),(42,[Zal (endL q)])]
theorem layS_strT(q:Int)(N:List Int)(D:List (List Int)):layS (strT q N D)=layA q (Zdn q N D):=by
 have e1:wsS 3 (Zal (Zaz q N) :: D)=(Zdn q N D).map fun y=>.w y.1 y.2:=by
  unfold wsS Zdn;rw[List.map_map,List.length_cons];rfl
 have e0:wsS 0 []=[]:=rfl;have e2:wsS 42 [z256]=[.w 42 z256]:=rfl;have e3:wsS 42 [Zal (endL q)]=[.w 42 (Zal (endL q))]:=rfl;unfold strT;rw[Zgf,Zgf,Zgf,Zgf,layS_nil,e0,e1,e2,e3];unfold layA;simp only[List.append_assoc,List.nil_append,List.cons_append,List.append_nil]
theorem layWs_mem{q:Int}{N:List Int}{D:List (List Int)}{x:Nat × List Int}(h:x∈Zdn q N D):∃ i,i<D.length+1/\x=(3+i,(Zal (Zaz q N) :: D).getD i []):=by
 obtain⟨i,hi,rfl⟩:=List.mem_map.1 h;exact⟨i,List.mem_range.1 hi,rfl⟩
theorem layWs_hit{q:Int}{N:List Int}{D F:List (List Int)}(hF:43<=F.length)(hD:D.length<=37)(i:Nat)(hi:i<D.length+1):(appU (Zdn q N D) F).getD (3+i) []=(Zal (Zaz q N) :: D).getD i []:=by
 refine Zip _ F (3+i) _ (by omega) (fun x hx e=>?_) ⟨(3+i,(Zal (Zaz q N) :: D).getD i []),List.mem_map.2 ⟨i,List.mem_range.2 hi,rfl⟩,rfl⟩;obtain⟨k,hk,rfl⟩:=layWs_mem hx;have e':3+k=3+i:=e;obtain rfl:k=i:=by omega
 rfl
theorem layW_of{q:Int}{N:List Int}{D:List (List Int)}(hF:frmT N D=true):layW q N D (Zdn q N D):=by
 obtain⟨h37,hl,_⟩:=Zct hF;refine⟨fun x hx=>?_,fun F h43=>⟨?_,fun j hj=>?_⟩⟩
 . obtain⟨k,hk,rfl⟩:=layWs_mem hx
   show 3<=3+k/\3+k<42
   omega
 . have:=layWs_hit (q:=q) (N:=N) h43 (by omega:D.length<=37) 0 (by omega)
   exact this
 . have:=layWs_hit (q:=q) (N:=N) h43 (by omega:D.length<=37) (1+j) (by omega)
   rw[show 3+(1+j)=4+j by omega] at this;rw[this,show 1+j=j+1 by omega];rfl
theorem make_n(W:World)(n:Nat)(hn:n<=1000000)(C:Int)(hC:C=n):(Instr.makeSlice 30 (.int .i64 C) (.int .i64 C)).run Tryz.prog W=.ok (.slice (some ⟨W.heap.size,0,none⟩) n n) (W.alloc (.cells (Array.replicate n (.int .u8 0)) 5)):=by
 subst hC;obtain⟨i,h2,h3,h4,h5⟩:=info_parts Zke;have hrun:=run_make (P:=Tryz.prog) W 30 5 i (.int .u8 0) Tryz.underlying30 h2 h3 .i64 .i64 n n (by omega) (by omega) (by rw[h5];omega) (by omega);simp only[Int.toNat_natCast,h4,Nat.mul_one,made_u8] at hrun;exact hrun
theorem slice_to(b off M cap K:Nat)(C:Int)(hC:C=K)(h1:K<=cap)(h2:0<cap)(W:World):(Instr.slice 96 (.slice (some ⟨b,off,none⟩) M cap) none (some (.int .i64 C)) none).run Tryz.prog W=.ok (.slice (some ⟨b,off,none⟩) K cap) W:=by
 subst hC;obtain⟨i,g2,g3,g4,g5⟩:=info_parts infoBy;have ee:Tryz.prog.elem 96=30:=by kernel_rfl
 have hs:(sizeOf 30).run Tryz.prog W=.ok 1 W:=by simp[sizeOf,typeInfo,g2,g4]
 rw[run_slice_h W 96 _ M cap (by rw[ee];exact Tryz.underlying96) .i64 (K:Int) (by omega) (by omega),ee,hs];have hne:cap≠0:=by omega
 simp[sliced,hne,Addr.add_lit]
theorem slice_from(b off M cap K:Nat)(C:Int)(hC:C=K)(h1:K+1=M)(h2:M<=cap)(W:World):(Instr.slice 96 (.slice (some ⟨b,off,none⟩) M cap) (some (.int .i64 C)) none none).run Tryz.prog W=.ok (.slice (some ⟨b,off+K,none⟩) 1 (cap-K)) W:=by
 subst hC;obtain⟨i,g2,g3,g4,g5⟩:=info_parts infoBy;have ee:Tryz.prog.elem 96=30:=by kernel_rfl
 have hs:(sizeOf 30).run Tryz.prog W=.ok 1 W:=by simp[sizeOf,typeInfo,g2,g4]
 rw[run_slice_l W 96 _ M cap (by rw[ee];exact Tryz.underlying96) .i64 (K:Int) (by omega) (by omega),ee,hs];have hne:cap≠K:=by omega
 have e1:M-K=1:=by omega
 simp[sliced,hne,Addr.add_lit,e1]
theorem BBa.mid{w:World}{P:Nat->Prop}{b off cap:Nat}{L:List (List Int)}(h:BBa w P (.slice (some ⟨b,off,none⟩) L.length cap) L)(lo m:Nat)(hm:lo+m<=L.length)(M:List (List Int))(hM:(L.drop lo).take m=M):BBa w P (.slice (some ⟨b,off+lo,none⟩) m (cap-lo)) M:=by
 have hlen:((L.drop lo).take m).length=m:=by simp;omega
 rw[hM] at hlen;rcases h with⟨hv,_⟩| ⟨a',c',hv,hcap,hc⟩
 . simp at hv
 . obtain⟨rfl,rfl⟩:(⟨b,off,none⟩:Addr)=a'/\cap=c':=⟨Option.some.inj (Value.slice.inj hv).1,(Value.slice.inj hv).2.2⟩
   refine .inr ⟨⟨b,off+lo,none⟩,cap-lo,by rw[hlen],by omega,fun j hj=>?_⟩;rw[hlen] at hj;obtain⟨h1,h2,u,h3,h4,h5⟩:=hc (lo+j) (by omega);have e:M.getD j []=L.getD (lo+j) []:=by
    rw[<- hM];simp[List.getD_eq_getElem?_getD,hj]
   refine⟨h1,rfl,u,?_,by rw[e];exact h4,h5⟩;show w.cell? ⟨b,off+lo+j,none⟩=_
   rw[Nat.add_assoc];exact h3
theorem bsl_zero{w:World}{g:Nat}(hg:w.heap[g]? =some (.cells (Array.replicate 256 (.int .u8 0)) 5 (0,0))):BSl w (.slice (some ⟨g,0,none⟩) 256 256) z256:=by
 have hl:z256.length=256:=List.length_replicate;refine⟨Zba 256,.inr ⟨_,256,by rw[hl],by rw[hl];exact Nat.le_refl _,fun j hj=>⟨(Array.getElem?_eq_some_iff.1 hg).1,rfl,?_⟩⟩⟩;rw[hl] at hj;show w.cell? ⟨g,0+j,none⟩=_
 rw[Nat.zero_add,cell_of_row _ _ _ _ _ _ hg];have hn:∀ n,j<n->(Array.replicate n (Value.int .u8 0))[j]? =some (.int .u8 ((List.replicate n (0:Int)).getD j 0)):=fun n h=>by simp[List.getD_eq_getElem?_getD,h]
 exact hn 256 hj
theorem stSl_made{W:World}{P:Nat->Prop}(hP:∀ k,P k->k<W.heap.size){q:Int}{N:List Int}{D:List (List Int)}{b off M cap K:Nat}(hb:BBa W P (.slice (some ⟨b,off,none⟩) M cap) (Zjt q N D))(hM:(Zjt q N D).length=M)(hK:D.length+1=K):
 Below W.heap.size W (((W.alloc (.cells (Array.replicate 256 (.int .u8 0)) 5)).alloc (.cells #[.slice (some ⟨W.heap.size,0,none⟩) 256 256] 30)).alloc (.cells #[.int .i64 0,.slice none 0 0,.int .i64 42,.slice (some ⟨W.heap.size+1,0,none⟩) 1 1,.int .i64 3,.slice (some ⟨b,off,none⟩) K cap,.int .i64 42,.slice (some ⟨b,off+K,none⟩) 1 (cap-K)] 234))/\
 StSl (((W.alloc (.cells (Array.replicate 256 (.int .u8 0)) 5)).alloc (.cells #[.slice (some ⟨W.heap.size,0,none⟩) 256 256] 30)).alloc (.cells #[.int .i64 0,.slice none 0 0,.int .i64 42,.slice (some ⟨W.heap.size+1,0,none⟩) 1 1,.int .i64 3,.slice (some ⟨b,off,none⟩) K cap,.int .i64 42,.slice (some ⟨b,off+K,none⟩) 1 (cap-K)] 234)) P (W.heap.size+1+1) 0 (strT q N D):=by
 subst hK;have b1:=Zaa W (.cells (Array.replicate 256 (.int .u8 0)) 5);have n1:=heap_alloc_new W (.cells (Array.replicate 256 (.int .u8 0)) 5);have s1:(W.alloc (.cells (Array.replicate 256 (.int .u8 0)) 5)).heap.size=W.heap.size+1:=by simp
 generalize W.alloc (.cells (Array.replicate 256 (.int .u8 0)) 5)=U1 at b1 n1 s1 |-
 have b2:=Zaa U1 (.cells #[.slice (some ⟨W.heap.size,0,none⟩) 256 256] 30);have n2:=heap_alloc_new U1 (.cells #[.slice (some ⟨W.heap.size,0,none⟩) 256 256] 30);have s2:(U1.alloc (.cells #[.slice (some ⟨W.heap.size,0,none⟩) 256 256] 30)).heap.size=W.heap.size+1+1:=by simp[s1]
 generalize U1.alloc (.cells #[.slice (some ⟨W.heap.size,0,none⟩) 256 256] 30)=U2 at b2 n2 s2 |-
 rw[s1] at n2;have b3:=Zaa U2 (.cells #[.int .i64 0,.slice none 0 0,.int .i64 42,.slice (some ⟨W.heap.size+1,0,none⟩) 1 1,.int .i64 3,.slice (some ⟨b,off,none⟩) (D.length+1) cap,.int .i64 42,.slice (some ⟨b,off+(D.length+1),none⟩) 1 (cap-(D.length+1))] 234);have n3:=heap_alloc_new U2 (.cells #[.int .i64 0,.slice none 0 0,.int .i64 42,.slice (some ⟨W.heap.size+1,0,none⟩) 1 1,.int .i64 3,.slice (some ⟨b,off,none⟩) (D.length+1) cap,.int .i64 42,.slice (some ⟨b,off+(D.length+1),none⟩) 1 (cap-(D.length+1))] 234);generalize U2.alloc (.cells #[.int .i64 0,.slice none 0 0,.int .i64 42,.slice (some ⟨W.heap.size+1,0,none⟩) 1 1,.int .i64 3,.slice (some ⟨b,off,none⟩) (D.length+1) cap,.int .i64 42,.slice (some ⟨b,off+(D.length+1),none⟩) 1 (cap-(D.length+1))] 234)=U3 at b3 n3 |-
 rw[s2] at n3;have b23:Below U1.heap.size U1 U3:=b2.trans (b3.mono b2.size);have b13:Below W.heap.size W U3:=b1.trans (b23.mono b1.size);have hc:Chg P P W U3:=Chg.of_below b13;have z1:=(b23.block _ (Array.getElem?_eq_some_iff.1 n1).1).trans n1;have z2:=(b3.block _ (Array.getElem?_eq_some_iff.1 n2).1).trans n2;have hPn:∀ k,W.heap.size<=k->¬ P k:=fun k hk hp=>by have:=hP k hp;omega
 have hl:(Zjt q N D).length=D.length+2:=packT_length q N D;rw[<- hM] at hb;have m1:=hb.mid 0 (D.length+1) (by omega) (Zal (Zaz q N) :: D) (by
  unfold Zjt;rw[List.drop_zero];show List.take ((Zal (Zaz q N) :: D).length) ((Zal (Zaz q N) :: D) ++ [Zal (endL q)])=_
  rw[List.take_left])
 have m2:=hb.mid (D.length+1) 1 (by omega) [Zal (endL q)] (by
  unfold Zjt;show List.take 1 (List.drop ((Zal (Zaz q N) :: D).length) ((Zal (Zaz q N) :: D) ++ [Zal (endL q)]))=_
  rw[List.drop_left];rfl)
 rw[Nat.add_zero,Nat.sub_zero] at m1;refine⟨b13,(Array.getElem?_eq_some_iff.1 n3).1,hPn _ (by omega),fun j hj=>?_⟩;have hj4:j<4:=hj;have cl:∀ i,U3.cell? ⟨W.heap.size+1+1,i,none⟩=(#[.int .i64 0,.slice none 0 0,.int .i64 42,.slice (some ⟨W.heap.size+1,0,none⟩) 1 1,.int .i64 3,.slice (some ⟨b,off,none⟩) (D.length+1) cap,.int .i64 42,.slice (some ⟨b,off+(D.length+1),none⟩) 1 (cap-(D.length+1))]:Array Value)[i]? :=fun i=>cell_of_row _ _ _ _ _ _ n3
 obtain rfl|rfl|rfl|rfl:j=0\/j=1\/j=2\/j=3:=by omega
 . exact⟨none,0,cl _,cl _,BBa.nil _ _⟩
 . refine⟨_,_,cl _,cl _,.inr ⟨_,1,rfl,Nat.le_refl _,fun i hi=>?_⟩⟩
   obtain rfl:i=0:=by have:i<1:=hi;omega
   refine⟨⟨(Array.getElem?_eq_some_iff.1 z2).1,hPn _ (Nat.le_succ _)⟩,rfl,.slice (some ⟨W.heap.size,0,none⟩) 256 256,?_,bsl_zero z1,Apt.new (hPn _ (Nat.le_refl _))⟩;show U3.cell? ⟨W.heap.size+1,0,none⟩=_
   rw[cell_of_row _ _ _ _ _ _ z2];rfl
 . exact⟨_,_,cl _,cl _,m1.chg hc⟩
 . exact⟨_,_,cl _,cl _,m2.chg hc⟩
theorem StSl.drew{w:World}{P:Nat->Prop}{b off:Nat}{St:List (Nat × List (List Int))}(h:StSl w P b off St):StSl w.drew P b off St:=h.chg (Chg.of_below (Zab (Below.refl _ _) 1))
theorem below_drew10{B:Nat}{w w':World}(h:Below B w w'):Below B w w'.drew:=Zab h 1
section
variable {w:World}{P:Nat->Prop}{p:Value}{s:DS}
set_option maxHeartbeats 2000000 in
theorem gWrite_yes(h:Dk w P p s){v:Value}{q:Int}{N:List Int}{D:List (List Int)}(hv:TxV w v q N D)(q0:0<=q)(q1:q<4294967296)(hB:Zfe s.F.length N D=true)(hU:s.U.length<=900000):
 Calls Tryz.prog 122 #[p,v] w (RunQ (layA q (Zdn q N D)) w P p s):=by
 have hv':=hv;obtain⟨no,nc,ao,dc,rfl,hN,hD⟩:=hv;have hB':=hB;unfold Zfe at hB';rw[Bool.and_eq_true,Bool.and_eq_true,decide_eq_true_eq] at hB';obtain⟨h64,hF,hH⟩:=hB';obtain⟨f1,f2,f3⟩:=Zct hF;have KT:=hid (fun W (hb:Below w.heap.size w W)=>gTakes_is (h.below hb) (hv'.below hb) true hB);have KP:=hid (fun W (hb:Below w.heap.size w W)=>tPack_own (hv'.below hb) hF q0 q1);obtain⟨M,hM⟩:∃ M,M=(Zjt q N D).length:=⟨_,rfl⟩;obtain⟨K,hK⟩:∃ K,K=D.length+1:=⟨_,rfl⟩;have hMK:K+1=M:=by rw[hM,packT_length,hK]
 have hM40:M<=40:=by omega
 have KL:Hid (∀ W g U3,Below w.heap.size w W->(W.heap.size+1+1=g)->(StSl U3 P g 0 (strT q N D))->Below W.heap.size W U3->Calls Tryz.prog 163 #[p,.slice (some ⟨g,0,none⟩) 4 4] U3 (fun e w'=>e=.returned (.int .i64 (runA (layA q (Zdn q N D)) s).1)/\∃ P',Dk w' P' p (runA (layA q (Zdn q N D)) s).2/\Chg P P' w w')):=hid (fun W g U3 hb _ hs hb2=>by
  have:=gLay_of (cap:=4) (h.below (hb.trans (hb2.mono hb.size))) hs hU (by
   unfold cntS;rw[layS_strT];unfold layA;simp[Zdn];omega) (by show 4<=1000;omega) (fun j hj i hi=>by
   have hj4:j<4:=hj;obtain rfl|rfl|rfl|rfl:j=0\/j=1\/j=2\/j=3:=by omega
   . exact absurd hi (Nat.not_lt_zero _)
   . obtain rfl:i=0:=by have:i<1:=hi;omega
     exact⟨by show 42+0<_;omega,by show z256.length=256;exact List.length_replicate⟩
   . have hi':i<D.length+1:=hi
     refine⟨by show 3+i<_;omega,?_⟩;show((Zal (Zaz q N) :: D).getD i []).length=256
     cases i with
     |zero=>exact Zbb _ (by rw[Zed];omega)
     |succ i=>exact(f3 i (by omega)).2.1
   . obtain rfl:i=0:=by have:i<1:=hi;omega
     exact⟨by show 42+0<_;omega,by show(Zal (endL q)).length=256;exact Zbb _ (by rw[Zjj];omega)⟩) (fun j hj=>by
   have hj4:j<4:=hj;obtain rfl|rfl|rfl|rfl:j=0\/j=1\/j=2\/j=3:=by omega
   . exact⟨by show 0<=1000;omega,by show 0<=1000;omega⟩
   . exact⟨by show 42<=1000;omega,by show 1<=1000;omega⟩
   . exact⟨by show 3<=1000;omega,by show D.length+1<=1000;omega⟩
   . exact⟨by show 42<=1000;omega,by show 1<=1000;omega⟩)
  rw[layS_strT] at this;refine this.mono ?_;rintro e w' ⟨he,P',hd,hc⟩;exact⟨he,P',hd,(Chg.of_below (hb.trans (hb2.mono hb.size))).trans hc⟩)
 have hlt:=fun k hk=>h.lt k hk
 have HAP:=hid (fun W (hb:Below w.heap.size w W) u (hu:BB2 W W.heap.size 0 u (Zjt q N D))=>hu.zero.apart (h.below hb));have HAP2:=hid (fun W (hb:Below w.heap.size w W) B u (hu:BB2 W B 0 u (Zjt q N D))=>hu.zero.apart (h.below hb));have HSM:=hid (fun W (hb:Below w.heap.size w W) b off cap (hu:BBa W P (.slice (some ⟨b,off,none⟩) M cap) (Zjt q N D))=>stSl_made (W:=W) (P:=P) (fun k hk=>Nat.lt_of_lt_of_le (hlt k hk) hb.size) hu hM.symm hK.symm);have HSH:=hid (fun W u (hu:BBSl W u (Zjt q N D))=>hu.open');rw[<- hM] at HSH;obtain⟨bp,rfl⟩:=h.ptr;unfold RunQ;obtain⟨A,hA⟩:∃ A,A=layA q (Zdn q N D):=⟨_,rfl⟩;rw[<- hA] at KL |-
 obtain⟨rr,hrr⟩:∃ rr,rr=(runA A s).1:=⟨_,rfl⟩;obtain⟨rs,hrs⟩:∃ rs,rs=(runA A s).2:=⟨_,rfl⟩;rw[<- hrr,<- hrs] at KL |-
 generalize N.length=n at KT KP |-
 generalize D.length=m at KT KP |-
 have hbx:=Zaa w (.cells #[.int .u32 q,.slice no n nc,.slice ao m dc] 183);have hnx:=heap_alloc_new w (.cells #[.int .u32 q,.slice no n nc,.slice ao m dc] 183);have hMc:((K:Nat):Int)=(M:Int)-1:=by omega
 have HMK:=hid hMK;have HM40:=hid hM40;have HMC:=hid hMc;clear h hN hD hv' hB hF hH f1 f2 f3 h64 hlt hU q0 q1 hM hK hA hrr hrs hMK hMc;go_enter Tryz.func122,Tryz.ntmps122;go_upto_region 1 with(fail)
 generalize w.alloc (.cells #[.int .u32 q,.slice no n nc,.slice ao m dc] 183)=u at hbx hnx |-
 have KT1:=hid (KT.out _ hbx);have d0:u.cell? ⟨w.heap.size,0,none⟩=some (.int .u32 q):=by rw[cell_of_row _ _ _ _ _ _ hnx];rfl
 have d1:u.cell? ⟨w.heap.size,1,none⟩=some (.slice no n nc):=by rw[cell_of_row _ _ _ _ _ _ hnx];rfl
 have d2:u.cell? ⟨w.heap.size,2,none⟩=some (.slice ao m dc):=by rw[cell_of_row _ _ _ _ _ _ hnx];rfl
 have hzu:w.heap.size<u.heap.size:=(Array.getElem?_eq_some_iff.1 hnx).1;obtain⟨d,hd⟩:∃ d,d=w.heap.size:=⟨_,rfl⟩;have HBX:=hid hbx;have HM0:Hid (0<M):=hid (by have:=HMK.out;omega);rw[<- hd] at d0 d1 d2 hzu |-
 have e1:1<=M:=HM0.out;clear hnx KT hbx hd
 go_wp2_with (first
  |(go_at_call 161;(with_reducible refine KT1.out.mono ?_);rintro e w2 ⟨rfl,hb2⟩
    have HB2:=hid (HBX.out.trans (hb2.mono HBX.out.size));have g0:=(hb2.cell (p:=⟨d,0,none⟩) hzu).trans d0;have g1:=(hb2.cell (p:=⟨d,1,none⟩) hzu).trans d1;have g2:=(hb2.cell (p:=⟨d,2,none⟩) hzu).trans d2;clear hb2 d0 d1 d2)
  |(go_at_call 162;(with_reducible refine(KP.out _ HB2.out).mono ?_);rintro e w3 ⟨u3,rfl,hu3,hb3⟩
    have HB3:=hid (HB2.out.trans (hb3.mono HB2.out.size));have HA3:=hid (HAP2.out _ HB3.out _ _ hu3);obtain⟨bo,cap,rfl,hcap,hq3⟩:=HSH.out _ _ hu3.zero.sl;obtain⟨b,off,rfl,_,_⟩:=hq3 HM0.out;have HCAP:=hid hcap;clear hu3 hb3 hq3 hcap g0 g1 g2))
 have hwr:IntKind.i64.wrap ((M:Int)-1)=(M:Int)-1:=IntWalk.i64_in _ (by have:=HM40.out;have:=HM0.out;omega);obtain⟨Z,hZ⟩:∃ Z,Z=Array.replicate 256 (Value.int .u8 0):=⟨_,rfl⟩;have hmk:=fun W=>make_n W 256 (by decide) 256 rfl
 have hs1:=fun W=>slice_to b off M cap K ((M:Int)-1) HMC.out.symm (by have:=HCAP.out;have:=HMK.out;omega) (by have:=HCAP.out;have:=HM0.out;omega) W
 have hs2:=fun W=>slice_from b off M cap K ((M:Int)-1) HMC.out.symm HMK.out HCAP.out W
 obtain⟨h1,h2⟩:=HSM.out _ HB3.out _ _ _ HA3.out;have KL1:=hid (KL.out _ _ _ HB3.out rfl h2.drew (below_drew10 h1));rw[<- hZ] at hmk KL1;clear h1 h2 hZ HA3;go_region_held3 (fun W=>True) (trivial) (first|(go_at_call 163;(with_reducible refine KL1.out.mono ?_);rintro e w5 ⟨rfl,hx5⟩))
 go_wp2;go_ret;exact⟨rfl,hx5⟩
end
def RecQ(A:List PA)(hd:Prop)(w:World)(P:Nat->Prop)(p:Value)(s:DS)(e:Ending)(w':World):Prop:=
 ∃ x,e=.returned (.tuple #[.int .u32 x,.int .i64 (runA A s).1])/\(∃ P',Dk w' P' p (runA A s).2/\Chg P P' w w')/\(hd->(runA A s).1=0->x=1)/\(0<=x/\x<4294967296)
theorem u32_in(x:Int):0<=IntKind.u32.wrap x/\IntKind.u32.wrap x<4294967296:=by
 have:IntKind.u32.wrap x=x%4294967296:=by simp[IntKind.wrap,IntKind.signed,IntKind.bits]
 omega
theorem Zdv(A:List PA)(s:DS):(runA A s).1=0\/(runA A s).1=2:=by
 obtain⟨_,_,_,h⟩:=Zgu A s;exact h.imp (fun x=>x.1) id
theorem RecQ.early{A:List PA}{hd:Prop}{w W:World}{P P':Nat->Prop}{p:Value}{s:DS}(h:(runA A s).1=2)(hk:Dk W P' p (runA A s).2)(hc:Chg P P' w W):RecQ (A ++ [.f]) hd w P p s (.returned (.tuple #[.int .u32 0,.int .i64 2])) W:=by
 have e:runA (A ++ [.f]) s=runA A s:=by rw[Zbz,if_neg (by rw[h];decide)]
 unfold RecQ;rw[e,h];exact⟨0,rfl,⟨P',hk,hc⟩,fun _ h=>absurd h (by decide),by decide,by decide⟩
theorem RecQ.stop{A:List PA}{hd:Prop}{w W:World}{P P':Nat->Prop}{p:Value}{s:DS}(h:(runA A s).1=0)(hok:(runA A s).2.ok=false)(hk:Dk W P' p (runA A s).2.pay)(hc:Chg P P' w W):RecQ (A ++ [.f]) hd w P p s (.returned (.tuple #[.int .u32 0,.int .i64 2])) W:=by
 unfold RecQ;rw[runA_stop h hok];exact⟨0,rfl,⟨P',hk,hc⟩,fun _ h=>absurd (show(2:Int)=0 from h) (by decide),by decide,by decide⟩
theorem RecQ.done{A:List PA}{hd:Prop}{w W:World}{P P':Nat->Prop}{p:Value}{s:DS}{x:Int}(h:(runA A s).1=0)(hok:(runA A s).2.ok=true)(hk:Dk W P' p (runA A s).2.flush)(hc:Chg P P' w W)(hx:hd->x=1)(hx2:0<=x/\x<4294967296):RecQ (A ++ [.f]) hd w P p s (.returned (.tuple #[.int .u32 x,.int .i64 0])) W:=by
 unfold RecQ;rw[Zer h hok];exact⟨x,rfl,⟨P',hk,hc⟩,fun h _=>hx h,hx2⟩
section
variable {w:World}{P:Nat->Prop}{p:Value}{s:DS}
theorem tSeq_some{W:World}{v:Value}{J:List (List Int)}(hv:BBSl W v J)(hJ:0<J.length):
 Calls Tryz.prog 137 #[v] W fun e w'=>∃ y z,e=.returned (.tuple #[.int .u32 y,.bool z])/\Below W.heap.size W w'/\((∀ q N,¬ Zbt (J.getD 0 []) q N)->y=0):=
 (tSeq_any hv).mono fun e w' ⟨hb,hc⟩=>by
   rcases hc with⟨q,N,h0,hh,he⟩| ⟨_,he⟩
   . exact⟨q,true,he,hb,fun h=>absurd hh (h q N)⟩
   . exact⟨0,false,he,hb,fun _=>rfl⟩
theorem gRecover_yes(h:Dk w P p s)(h64:64<=s.F.length)(hd:s.dn=false)(hU:s.U.length<=900000){q:Int}{N:List Int}{D:List (List Int)}(ht:holdsT s.F.length (jour s.vis) q N D):
 Calls Tryz.prog 89 #[p] w (RecQ (Zap N D ++ [.f]) (∀ q N,¬ Zbt ((jour s.vis).getD 0 []) q N) w P p s):=by
 have hjl:(jour s.vis).length=40:=Zcb (by rw[DS.vis_length];omega);obtain⟨hF,q0,q1⟩:=isTxn_frm ht.1;have hlen:=Zdw (Zap N D) s;rw[Zcy] at hlen;have h37:=(Zct hF).1;have KJ:=hid (gJour_of h h64 hd);have KS:=hid (fun W (hb:Below w.heap.size w W) v (hv:BBSl W v (jour s.vis))=>gStored_yes (h.below hb) hv (by omega) ht);have HTV:=hid (fun W (hb:Below w.heap.size w W) vN vD (hN:IR W 0 vN N) (hD:BBR W 0 vD D)=>TxVa.own (h.below hb) (q:=q) hN hD);have KH:=hid (fun W (hb:Below w.heap.size w W) v (hv:TxVa W P v q N D)=>gHome_yes (h.below hb) hv (by
  unfold Zfe;rw[decide_eq_true h64,hF,ht.2];rfl) hU)
 have KF:=hid (fun W Pk (hk:Dk W Pk p (runA (Zap N D) s).2)=>kFlush hk (by omega));have KQ:=hid (fun W v (hv:BBSl W v (jour s.vis))=>tSeq_some hv (by omega));obtain⟨bp,rfl⟩:=h.ptr;obtain⟨J,hJ⟩:∃ J,J=jour s.vis:=⟨_,rfl⟩;rw[<- hJ] at KJ KS KQ |-
 obtain⟨HD,hHD⟩:∃ HD,HD=(∀ q N,¬ Zbt (J.getD 0 []) q N):=⟨_,rfl⟩;rw[<- hHD];have HHD:Hid (HD->(∀ q N,¬ Zbt (J.getD 0 []) q N)):=hid (fun h=>by rw[hHD] at h;exact h);obtain⟨A,hA⟩:∃ A,A=Zap N D:=⟨_,rfl⟩;rw[<- hA] at KF KH |-
 unfold RunQ at KH;clear h h64 hd hU ht hjl hF q0 q1 hlen h37 hHD hA hJ;rcases Zdv A s with hr|hr
 . rw[hr] at KH
   have HR:=hid hr;clear hr;cases hok:(runA A s).2.ok
   . rw[hok,if_neg Bool.false_ne_true,if_neg Bool.false_ne_true] at KF
     have HOK:=hid hok;clear hok;go_enter Tryz.func89,Tryz.ntmps89
     go_wp2_with (first
      |(go_at_call 135;(with_reducible refine KJ.out.mono ?_);rintro e w1 ⟨ao,cap,rfl,hv1,hb1⟩
        have HB1:=hid hb1;have HV1:=hid hv1;clear hb1 hv1)
      |(go_at_call 136;(with_reducible refine(KS.out _ HB1.out _ HV1.out.sl).mono ?_);rintro e w3 ⟨vN,vD,rfl,hN3,hD3,hb3⟩
        obtain⟨_,no,nc,rfl,_⟩:=hN3.isc;obtain⟨co,dc,rfl,_⟩:=hD3.sl.shape;have hns:=heap_alloc_new w3 (.cells #[.int .u32 0,.slice none 0 0,.slice none 0 0] 183);have hbs:=Zaa w3 (.cells #[.int .u32 0,.slice none 0 0,.slice none 0 0] 183);have HN3:=hid (hN3.below hbs);have HD3:=hid (hD3.below hbs);have HB3:=hid hb3;generalize hnn:N.length=n at HN3 |-
        generalize hmm:D.length=m at HD3 |-
        clear hN3 hD3 hnn hmm hb3)
      |(with_reducible refine Zag rfl 183 Zeb (.tmp 6) (.tmp 24) rfl w3.heap.size rfl _ _ _ _ _ _ rfl rfl rfl rfl _ hns ?_;intro w4 hw4 hr4
        have hb4:=hbs.trans (hw4.below (Nat.le_refl _));have HB14:=hid (HB3.out.trans (hb4.mono HB3.out.size));have HB4:=hid (HB1.out.trans (HB14.out.mono HB1.out.size));have x0:w4.cell? ⟨w3.heap.size,0,none⟩=some (.int .u32 q):=by rw[cell_of_row _ _ _ _ _ _ hr4];rfl
        have x1:w4.cell? ⟨w3.heap.size,1,none⟩=some (.slice no n nc):=by rw[cell_of_row _ _ _ _ _ _ hr4];rfl
        have x2:w4.cell? ⟨w3.heap.size,2,none⟩=some (.slice co m dc):=by rw[cell_of_row _ _ _ _ _ _ hr4];rfl
        have HTX:=hid (HTV.out _ HB4.out _ _ (HN3.out.wrote hw4 hns (by decide)) (HD3.out.wrote hw4 (Nat.zero_le _) hns (by decide) (by decide)));clear hns hbs hw4 hb4 HN3 HD3 hr4)
      |(go_at_call 123;(with_reducible refine(KH.out _ HB4.out _ HTX.out).mono ?_);rintro e w5 ⟨rfl,P5,hd5,hc5⟩
        have HC5:=hid ((Chg.of_below (P:=P) HB14.out).trans hc5);have HC05:=hid ((Chg.of_below (P:=P) HB1.out).trans HC5.out);have KF1:=hid (KF.out _ _ hd5);clear x0 x1 x2 hc5)
      |(go_at_call 124;(with_reducible refine KF1.out.mono ?_);rintro e w7 ⟨rfl,P7,hd7,hc7⟩))
     go_ret2;exact RecQ.stop HR.out HOK.out hd7 (HC05.out.trans hc7)
   . rw[hok,if_pos rfl,if_pos rfl] at KF
     have HOK:=hid hok;clear hok;go_enter Tryz.func89,Tryz.ntmps89
     go_wp2_with (first
      |(go_at_call 135;(with_reducible refine KJ.out.mono ?_);rintro e w1 ⟨ao,cap,rfl,hv1,hb1⟩
        have HB1:=hid hb1;have HV1:=hid hv1;clear hb1 hv1)
      |(go_at_call 136;(with_reducible refine(KS.out _ HB1.out _ HV1.out.sl).mono ?_);rintro e w3 ⟨vN,vD,rfl,hN3,hD3,hb3⟩
        obtain⟨_,no,nc,rfl,_⟩:=hN3.isc;obtain⟨co,dc,rfl,_⟩:=hD3.sl.shape;have hns:=heap_alloc_new w3 (.cells #[.int .u32 0,.slice none 0 0,.slice none 0 0] 183);have hbs:=Zaa w3 (.cells #[.int .u32 0,.slice none 0 0,.slice none 0 0] 183);have HN3:=hid (hN3.below hbs);have HD3:=hid (hD3.below hbs);have HB3:=hid hb3;generalize hnn:N.length=n at HN3 |-
        generalize hmm:D.length=m at HD3 |-
        clear hN3 hD3 hnn hmm hb3)
      |(with_reducible refine Zag rfl 183 Zeb (.tmp 6) (.tmp 24) rfl w3.heap.size rfl _ _ _ _ _ _ rfl rfl rfl rfl _ hns ?_;intro w4 hw4 hr4
        have hb4:=hbs.trans (hw4.below (Nat.le_refl _));have HB14:=hid (HB3.out.trans (hb4.mono HB3.out.size));have HB4:=hid (HB1.out.trans (HB14.out.mono HB1.out.size));have x0:w4.cell? ⟨w3.heap.size,0,none⟩=some (.int .u32 q):=by rw[cell_of_row _ _ _ _ _ _ hr4];rfl
        have x1:w4.cell? ⟨w3.heap.size,1,none⟩=some (.slice no n nc):=by rw[cell_of_row _ _ _ _ _ _ hr4];rfl
        have x2:w4.cell? ⟨w3.heap.size,2,none⟩=some (.slice co m dc):=by rw[cell_of_row _ _ _ _ _ _ hr4];rfl
        have HTX:=hid (HTV.out _ HB4.out _ _ (HN3.out.wrote hw4 hns (by decide)) (HD3.out.wrote hw4 (Nat.zero_le _) hns (by decide) (by decide)));clear hns hbs hw4 hb4 HN3 HD3 hr4)
      |(go_at_call 123;(with_reducible refine(KH.out _ HB4.out _ HTX.out).mono ?_);rintro e w5 ⟨rfl,P5,hd5,hc5⟩
        have HC5:=hid ((Chg.of_below (P:=P) HB14.out).trans hc5);have HC05:=hid ((Chg.of_below (P:=P) HB1.out).trans HC5.out);have KF1:=hid (KF.out _ _ hd5);clear x0 x1 x2 hc5)
      |(go_at_call 124;(with_reducible refine KF1.out.mono ?_);rintro e w7 ⟨rfl,P7,hd7,hc7⟩)
      |(go_at_call 137;(with_reducible refine(KQ.out _ _ (HV1.out.chg (HC5.out.trans hc7)).sl).mono ?_);rintro e w8 ⟨y,z,rfl,hb8,hy⟩))
     go_ret2;exact RecQ.done HR.out HOK.out (hd7.below hb8) ((HC05.out.trans hc7).trans (Chg.of_below hb8)) (fun h=>by rw[hy (HHD.out h)];rfl) (u32_in (y+1))
 . rw[hr] at KH
   have HR:=hid hr;clear hr;go_enter Tryz.func89,Tryz.ntmps89
   go_wp2_with (first
    |(go_at_call 135;(with_reducible refine KJ.out.mono ?_);rintro e w1 ⟨ao,cap,rfl,hv1,hb1⟩
      have HB1:=hid hb1;have HV1:=hid hv1;clear hb1 hv1)
    |(go_at_call 136;(with_reducible refine(KS.out _ HB1.out _ HV1.out.sl).mono ?_);rintro e w3 ⟨vN,vD,rfl,hN3,hD3,hb3⟩
      obtain⟨_,no,nc,rfl,_⟩:=hN3.isc;obtain⟨co,dc,rfl,_⟩:=hD3.sl.shape;have hns:=heap_alloc_new w3 (.cells #[.int .u32 0,.slice none 0 0,.slice none 0 0] 183);have hbs:=Zaa w3 (.cells #[.int .u32 0,.slice none 0 0,.slice none 0 0] 183);have HN3:=hid (hN3.below hbs);have HD3:=hid (hD3.below hbs);have HB3:=hid hb3;generalize hnn:N.length=n at HN3 |-
      generalize hmm:D.length=m at HD3 |-
      clear hN3 hD3 hnn hmm hb3)
    |(with_reducible refine Zag rfl 183 Zeb (.tmp 6) (.tmp 24) rfl w3.heap.size rfl _ _ _ _ _ _ rfl rfl rfl rfl _ hns ?_;intro w4 hw4 hr4
      have hb4:=hbs.trans (hw4.below (Nat.le_refl _));have HB14:=hid (HB3.out.trans (hb4.mono HB3.out.size));have HB4:=hid (HB1.out.trans (HB14.out.mono HB1.out.size));have x0:w4.cell? ⟨w3.heap.size,0,none⟩=some (.int .u32 q):=by rw[cell_of_row _ _ _ _ _ _ hr4];rfl
      have x1:w4.cell? ⟨w3.heap.size,1,none⟩=some (.slice no n nc):=by rw[cell_of_row _ _ _ _ _ _ hr4];rfl
      have x2:w4.cell? ⟨w3.heap.size,2,none⟩=some (.slice co m dc):=by rw[cell_of_row _ _ _ _ _ _ hr4];rfl
      have HTX:=hid (HTV.out _ HB4.out _ _ (HN3.out.wrote hw4 hns (by decide)) (HD3.out.wrote hw4 (Nat.zero_le _) hns (by decide) (by decide)));clear hns hbs hw4 hb4 HN3 HD3 hr4)
    |(go_at_call 123;(with_reducible refine(KH.out _ HB4.out _ HTX.out).mono ?_);rintro e w5 ⟨rfl,P5,hd5,hc5⟩
      have HC5:=hid ((Chg.of_below (P:=P) HB14.out).trans hc5);have HC05:=hid ((Chg.of_below (P:=P) HB1.out).trans HC5.out);have KF1:=hid (KF.out _ _ hd5);clear x0 x1 x2 hc5))
   go_ret2;exact RecQ.early HR.out hd5 HC05.out
theorem gRecover_no(h:Dk w P p s)(h64:64<=s.F.length)(hd:s.dn=false)(hU:s.U.length<=900000)(hno:∀ q N D,¬ holdsT s.F.length (jour s.vis) q N D):
 Calls Tryz.prog 89 #[p] w (RecQ ([] ++ [.f]) (∀ q N,¬ Zbt ((jour s.vis).getD 0 []) q N) w P p s):=by
 have hjl:(jour s.vis).length=40:=Zcb (by rw[DS.vis_length];omega);have KJ:=hid (gJour_of h h64 hd);have KS:=hid (fun W (hb:Below w.heap.size w W) v (hv:BBSl W v (jour s.vis))=>gStored_no (h.below hb) hv (by omega) hno);have KF:=hid (fun W (hb:Below w.heap.size w W)=>kFlush (h.below hb) (by omega));have KQ:=hid (fun W v (hv:BBSl W v (jour s.vis))=>tSeq_some hv (by omega));obtain⟨bp,rfl⟩:=h.ptr;obtain⟨J,hJ⟩:∃ J,J=jour s.vis:=⟨_,rfl⟩;rw[<- hJ] at KJ KS KQ |-
 obtain⟨HD,hHD⟩:∃ HD,HD=(∀ q N,¬ Zbt (J.getD 0 []) q N):=⟨_,rfl⟩;rw[<- hHD];have HHD:Hid (HD->(∀ q N,¬ Zbt (J.getD 0 []) q N)):=hid (fun h=>by rw[hHD] at h;exact h);have HR:Hid ((runA [] s).1=0):=hid rfl;clear h h64 hd hU hno hjl hHD hJ;cases hok:s.ok
 . rw[hok,if_neg Bool.false_ne_true,if_neg Bool.false_ne_true] at KF
   have HOK:Hid ((runA [] s).2.ok=false):=hid hok;clear hok;go_enter Tryz.func89,Tryz.ntmps89
   go_wp2_with (first
    |(go_at_call 135;(with_reducible refine KJ.out.mono ?_);rintro e w1 ⟨ao,cap,rfl,hv1,hb1⟩
      have HB1:=hid hb1;have HV1:=hid hv1;clear hb1 hv1)
    |(go_at_call 136;(with_reducible refine(KS.out _ HB1.out _ HV1.out.sl).mono ?_);rintro e w3 ⟨rfl,hb3⟩
      have hns:=heap_alloc_new w3 (.cells #[.int .u32 0,.slice none 0 0,.slice none 0 0] 183);have hbs:=Zaa w3 (.cells #[.int .u32 0,.slice none 0 0,.slice none 0 0] 183);have HB3:=hid hb3;clear hb3)
    |(with_reducible refine Zag rfl 183 Zeb (.tmp 6) (.tmp 24) rfl w3.heap.size rfl _ _ _ _ _ _ rfl rfl rfl rfl _ hns ?_;intro w4 hw4 hr4
      have hb4:=hbs.trans (hw4.below (Nat.le_refl _));have HB14:=hid (HB3.out.trans (hb4.mono HB3.out.size));have HB4:=hid (HB1.out.trans (HB14.out.mono HB1.out.size));have HC5:=hid (Chg.of_below (P:=P) HB14.out);have HC05:=hid (Chg.of_below (P:=P) HB4.out);have KF1:=hid (KF.out _ HB4.out);clear hns hbs hw4 hb4 hr4)
    |(go_at_call 124;(with_reducible refine KF1.out.mono ?_);rintro e w7 ⟨rfl,P7,hd7,hc7⟩))
   go_ret2;exact RecQ.stop HR.out HOK.out hd7 (HC05.out.trans hc7)
 . rw[hok,if_pos rfl,if_pos rfl] at KF
   have HOK:Hid ((runA [] s).2.ok=true):=hid hok;clear hok;go_enter Tryz.func89,Tryz.ntmps89
   go_wp2_with (first
    |(go_at_call 135;(with_reducible refine KJ.out.mono ?_);rintro e w1 ⟨ao,cap,rfl,hv1,hb1⟩
      have HB1:=hid hb1;have HV1:=hid hv1;clear hb1 hv1)
    |(go_at_call 136;(with_reducible refine(KS.out _ HB1.out _ HV1.out.sl).mono ?_);rintro e w3 ⟨rfl,hb3⟩
      have hns:=heap_alloc_new w3 (.cells #[.int .u32 0,.slice none 0 0,.slice none 0 0] 183);have hbs:=Zaa w3 (.cells #[.int .u32 0,.slice none 0 0,.slice none 0 0] 183);have HB3:=hid hb3;clear hb3)
    |(with_reducible refine Zag rfl 183 Zeb (.tmp 6) (.tmp 24) rfl w3.heap.size rfl _ _ _ _ _ _ rfl rfl rfl rfl _ hns ?_;intro w4 hw4 hr4
      have hb4:=hbs.trans (hw4.below (Nat.le_refl _));have HB14:=hid (HB3.out.trans (hb4.mono HB3.out.size));have HB4:=hid (HB1.out.trans (HB14.out.mono HB1.out.size));have HC5:=hid (Chg.of_below (P:=P) HB14.out);have HC05:=hid (Chg.of_below (P:=P) HB4.out);have KF1:=hid (KF.out _ HB4.out);clear hns hbs hw4 hb4 hr4)
    |(go_at_call 124;(with_reducible refine KF1.out.mono ?_);rintro e w7 ⟨rfl,P7,hd7,hc7⟩)
    |(go_at_call 137;(with_reducible refine(KQ.out _ _ (HV1.out.chg (HC5.out.trans hc7)).sl).mono ?_);rintro e w8 ⟨y,z,rfl,hb8,hy⟩))
   go_ret2;exact RecQ.done HR.out HOK.out (hd7.below hb8) ((HC05.out.trans hc7).trans (Chg.of_below hb8)) (fun h=>by rw[hy (HHD.out h)];rfl) (u32_in (y+1))
end
def inJS(N:List Int):Bool:=(List.range N.length).any fun k=>decide (3<=N.getD k 0) && decide (N.getD k 0<43)
theorem inJS_no(N:List Int):inJS N=false ↔ ∀ k,k<N.length->¬ (3<=N.getD k 0/\N.getD k 0<43):=by
 unfold inJS;rw[List.any_eq_false];constructor
 . intro h k hk hc
   exact h k (List.mem_range.2 hk) (by rw[Bool.and_eq_true,decide_eq_true_eq,decide_eq_true_eq];exact hc)
 . intro h k hk
   have:=h k (List.mem_range.1 hk);simp only[Bool.and_eq_true,decide_eq_true_eq];exact this
theorem BBR.row{w:World}{B g n cap:Nat}{L:List (List Int)}(h:BBR w B (.slice (some ⟨g,0,none⟩) n cap) L):∃ cur:Array Value,w.heap[g]? =some (.cells cur 30 (0,0))/\L.length<=cur.size/\B<=g:=by
 obtain⟨vs,hl,hr,ho⟩:=h;rcases ho.2 with⟨hv,_⟩| ⟨g',cap',cur,hv,hg,hh,hnc,hcm,hcs,ht⟩
 . simp at hv
 . obtain rfl:g=g':=by have:=Option.some.inj (Value.slice.inj hv).1;injection this
   exact⟨cur,hh,by omega,hg⟩
theorem BBR.set{w:World}{B g n cap:Nat}{L:List (List Int)}(h:BBR w B (.slice (some ⟨g,0,none⟩) n cap) L){x:Nat}(hx:x<L.length){y:Value}{l:List Int}(hy:BElt w B y l):BBR (w.setCell ⟨g,x,none⟩ y) B (.slice (some ⟨g,0,none⟩) n cap) (L.set x l):=by
 obtain⟨vs,hl,hr,ho⟩:=h;rcases ho.2 with⟨hv,_⟩| ⟨g',cap',cur,hv,hg,hh,hnc,hcm,hcs,ht⟩
 . simp at hv
 . obtain rfl:g=g':=by have:=Option.some.inj (Value.slice.inj hv).1;injection this
   have hw:=Wrote.setCell w g x y;have hgr:w.grownBy (w.setCell ⟨g,x,none⟩ y) (some g):=
    ⟨hw.1,hw.2.1,hw.2.2.1,by rw[hw.2.2.2.1];exact Nat.le_refl _,fun b hb hne=>hw.2.2.2.2 b (fun e=>hne (by rw[e]))⟩
   have hrow:∀ g',some g=some g'->B<=g'/\∃ cur,w.heap[g']? =some (.cells cur 30 (0,0)):=fun g' e=>by
    obtain rfl:=Option.some.inj e;exact⟨hg,_,hh⟩
   refine⟨vs.set x y,by rw[List.length_set,List.length_set];exact hl,fun j hj=>?_,by rw[List.length_set,List.length_set];exact ho.1,.inr ⟨g,cap',cur.setIfInBounds x y,by rw[List.length_set];exact hv,hg,?_,by rw[List.length_set];exact hnc,hcm,by rw[Array.size_setIfInBounds];exact hcs,?_⟩⟩
   . rw[List.length_set] at hj
     by_cases e:j=x
     . subst e
       have e1:(vs.set j y).getD j undef=y:=by simp[List.getD_eq_getElem?_getD,hl,hx]
       have e2:(L.set j l).getD j []=l:=by simp[List.getD_eq_getElem?_getD,hx]
       rw[e1,e2];exact hy.grown hrow hgr
     . have e1:(vs.set x y).getD j undef=vs.getD j undef:=by rw[List.getD_eq_getElem?_getD,List.getElem?_set_ne (by omega),<- List.getD_eq_getElem?_getD]
       have e2:(L.set x l).getD j []=L.getD j []:=by rw[List.getD_eq_getElem?_getD,List.getElem?_set_ne (by omega),<- List.getD_eq_getElem?_getD]
       rw[e1,e2];exact(hr j hj).grown hrow hgr
   . exact heap_setCell_same w g x _ _ _ hh
   . rw[List.length_set,Array.toList_setIfInBounds,List.take_set,ht]
theorem far_of{N:List Int}{D:List (List Int)}{z n:Nat}(hF:frmT N D=true)(hH:hasN z N=true)(hJ:inJS N=false)(hz:z<=n):farT n N:=fun j hj=>by
 have h1:=(Zct hF).2.2 j hj;have h2:=(Zkf _ _).1 hH j hj;have h3:=(inJS_no N).1 hJ j hj;unfold OutJ;omega
section
variable {q1 q2:Int}{N1 N2:List Int}{D1 D2 Z G:List (List Int)}{er:Int}
theorem Zjn{s:DS}(h:s.U=[]):s.vis=s.F:=by unfold DS.vis;rw[h];rfl
end
end Go.Proofs.YtedabomlfcghoaaGreat
