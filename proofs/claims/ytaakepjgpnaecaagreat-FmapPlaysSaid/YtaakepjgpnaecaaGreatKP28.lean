/- What the law rests on: part 28. -/
import Derived.Test.YtaakepjgpnaecaaGreatKP27
set_option linter.unusedVariables false
namespace Go.Proofs.YtaakepjgpnaecaaGreat
set_option maxRecDepth 100000
open Go.RowKit BM
structure WhF (w:World) (bm bf:Nat) (p:Value) (bn bp:Nat->Nat) (n M:Nat) (L K:List Int):Prop where
 md:∀ V,Below w.heap.size w V->V.cell? ⟨bm,n,none⟩=some (.pointer (some ⟨bn n,0,none⟩))/\V.cell? ⟨bn n,3,none⟩=some (.map (some (bp n)))/\V.cell? ⟨bf,0,none⟩=some p
 lk:∀ V,Below w.heap.size w V->∀ k:Nat,k<138->∃ s,(Instr.lookup 67 (.map (some (bp n))) (.int .i64 (k:Int)) true).run Tryz.prog V=.ok (.tuple #[.string s,.bool (decide ((k:Int)∈K))]) V
 bl:∀ V,Below w.heap.size w V->Calls Tryz.prog 33 #[.pointer (some ⟨bf,0,none⟩),.int .i64 n] V fun e w'=>∃ b cap,e=.returned (.tuple #[.slice (some ⟨b,0,none⟩) M cap,.int .i64 0])/\b<w'.heap.size/\V.heap.size<=b/\(∀ j,j<138->w'.cell? ⟨b,j,none⟩=some (.int .i64 (L.getD j 0)))/\Below V.heap.size V w'
 at_:∀ V,Below w.heap.size w V->∀ k:Nat,k<138->Calls Tryz.prog 34 #[.pointer (some ⟨bf,0,none⟩),.int .i64 n,.int .i64 k] V fun e w'=>e=.returned (.tuple #[.int .i64 (L.getD k 0),.int .i64 0])/\Below V.heap.size V w'
 ow:∀ V,Below w.heap.size w V->∀ k:Nat,k<138->L.getD k 0≠0->Calls Tryz.prog 10 #[p,.int .i64 (L.getD k 0)] V fun e w'=>e=.returned (.tuple #[.agg #[.int .u16 n,.int .u16 k],.int .i64 0])/\Below V.heap.size V w'
 pi:∀ V,Below w.heap.size w V->Calls Tryz.prog 20 #[.pointer (some ⟨bf,0,none⟩),.int .i64 n] V fun e w'=>e=.returned (.tuple #[.int .i64 (pieX L 138:Nat),.int .i64 0])/\Below V.heap.size V w'
 lc:∀ k:Nat,k<138->(L.getD k 0≠0 ↔ (k:Int)∈K)
 bd:∀ k:Nat,k<138->0<=L.getD k 0/\L.getD k 0<=767
 m:M=lastX L 138
theorem whf_of {w0 w:World}{P:Nat->Prop}{d p:Value}{X:XSt}{S:List Int}{N:List (List Int)}{O:List (Int × Int)}{kk:Nat}{F:Nat->List Int}{bf bm:Nat}{bn bp:Nat->Nat}{Ks:Nat->List Int}{lim:Int} (h:Ps w0 w P d p X S N O kk F bf bm bn bp Ks lim) {n:Nat} (h2:2<=n) (h5:n<=5):
 WhF w bm bf p bn bp n (lastX (allX (N.getD n []) (F n)) 138) (allX (N.getD n []) (F n)) (Ks n):=by
 have hk:=(h.mr.kd n (by omega)).2 (by omega)
 have hx:=h.sd.pl.tab.n.get (j:=n) (by omega)
 have hF:=h.sd.pl.fi.fl n
 have hg:∀ k,k<138->(allX (N.getD n []) (F n)).getD k 0=locX (N.getD n []) (F n) k:=fun k hk=>allX_get hx hF.1 hk
 have hc:X.cur=X.is:=by unfold XSt.cur;rw[h.sd.wi];rfl
 refine ⟨fun V hV=>⟨(h.md.low hV).cell (by omega),((h.md.low hV).nd n (by omega)).c3,(h.sd.low hV).fs.cell⟩,fun V hV k hk=>((h.md.low hV).nd n (by omega)).map.look (wf_nat hk),fun V hV=>fmBlocks_of (h.sd.low hV).rd (by omega) (by omega) hk rfl,fun V hV k hk2=>?_,fun V hV k hk2 hne=>?_,fun V hV=>fmPieces_of (h.sd.low hV).rd (by omega) (by omega) hk,fun k hk2=>by rw[hg k hk2];exact (h.mr.fk n h2 h5).lc k hk2,fun k hk2=>by rw[hg k hk2];exact locX_bd (h.sd.pl.tab.n.frm n (by omega)) hF (by omega),rfl⟩
 · rw[hg k hk2];exact fmAt_of (h.sd.low hV).rd (by omega) (by omega) hk hk2
 · rw[hg k hk2] at hne |-
   have ho:=h.sd.pl.fi.ow n k (by omega) (by omega) (by omega) id hne
   have hb:=ho.1
   have h12:=h.sd.pl.ok.k12
   obtain ⟨m,hm⟩:∃ m:Nat,locX (N.getD n []) (F n) k=(m:Int):=⟨(locX (N.getD n []) (F n) k).toNat,by omega⟩
   rw[hm] at ho hb |-
   have:=spOwner_yes (h.sd.low hV).inv (by rw[hc];exact h.sd.pl.has) h.sd.pl.ok (n:=m) (by omega)
   have e1:=ho.2.2
   rw[Int.toNat_natCast] at e1
   rw[e1] at this
   have e2:atX k=(k:Int):=by unfold atX;rw[if_neg (by omega)]
   rw[e2] at this
   exact this
set_option maxHeartbeats 4000000 in
theorem whole_of {w0 w:World}{P:Nat->Prop}{d p:Value}{X:XSt}{S:List Int}{N:List (List Int)}{O:List (Int × Int)}{kk:Nat}{F:Nat->List Int}{bf bm:Nat}{bn bp:Nat->Nat}{Ks:Nat->List Int}{lim:Int} (h:Ps w0 w P d p X S N O kk F bf bm bn bp Ks lim):
 Calls Tryz.prog 13 #[.pointer (some ⟨bm,0,none⟩),.pointer (some ⟨bf,0,none⟩)] w fun e w'=>e=.returned (.bool true)/\Below w.heap.size w w':=by
 have HW:Hid (∀ n:Nat,2<=n->n<=5->∃ M L,WhF w bm bf p bn bp n M L (Ks n)):=Lib.hid fun n h2 h5=>⟨_,_,whf_of h h2 h5⟩
 clear h
 go_enter Tryz.func13,Tryz.ntmps13
 go_wp2
 go_loopw [5] (fun o wr=>∃ n:Nat,(2<=n/\n<=6)/\o=.int .i64 n/\Hid (Below w.heap.size w wr)) (fun o _=>6-(intOf o).toNat)
 case atStart=>exact ⟨2,by omega,rfl,Lib.hid (Below.refl _ _)⟩
 case round=>
  obtain ⟨n,⟨hn2,hn6⟩,rfl,HB⟩:=hrel
  by_cases hlt:n<6
  · obtain ⟨M,L,hw⟩:=HW.out n hn2 (by omega)
    have HH:=Lib.hid hw
    have KB:=Lib.hid (hw.bl wr HB.out)
    have en:(n:Int)<6:=by omega
    have hM138:M<=138:=by rw[hw.m];exact lastX_le _ _
    have HLL:Hid (∀ k,lastX L k<=k):=Lib.hid (lastX_le L)
    have HPL:Hid (∀ k,pieX L k<=k):=Lib.hid (pieX_le L)
    clear hw
    go_wp2_with (go_at_call 33;refine KB.out.mono ?_;rintro e w2 ⟨b,cap,rfl,hbl,hbw,hce,hb2⟩)
    have HB2:=Lib.hid (HB.out.trans (hb2.mono HB.out.size))
    have HCE:Hid (∀ V,Below w2.heap.size w2 V->∀ j,j<138->V.cell? ⟨b,j,none⟩=some (.int .i64 (L.getD j 0))):=Lib.hid fun V hV j hj=>(hV.cell (p:=⟨b,j,none⟩) hbl).trans (hce j hj)
    clear hbl hbw hce hb2
    go_loopw [8,9,30] (fun l c i wr=>∃ k:Nat,k<=138/\i=.int .i64 k/\l=.int .i64 (lastX L k:Nat)/\c=.int .i64 (pieX L k:Nat)/\Hid (Below w2.heap.size w2 wr)) (fun _ _ i _=>138-(intOf i).toNat)
    case atStart=>exact ⟨0,by omega,rfl,rfl,rfl,Lib.hid (Below.refl _ _)⟩
    case round=>
     obtain ⟨k,hk,rfl,rfl,rfl,HR⟩:=hrel
     have HBR:=Lib.hid (HB2.out.trans (HR.out.mono HB2.out.size))
     by_cases hlk:k<138
     · have ek:(k:Int)<138:=by omega
       have HK:=Lib.hid hlk
       obtain ⟨m1,m2,m3⟩:=HH.out.md _ HBR.out
       obtain ⟨sx,hsx⟩:=HH.out.lk _ HBR.out k hlk
       have KA:=Lib.hid (HH.out.at_ _ HBR.out k hlk)
       have hle:lastX L k<=k:=HLL.out k
       have hpe:pieX L k<=k:=HPL.out k
       have hlc:=HH.out.lc k hlk
       have hpp:pieX L (k+1)=pieX L k+if L.getD k 0≠0/\((if k=0 then 0 else L.getD (k-1) 0)=0\/L.getD k 0≠(if k=0 then 0 else L.getD (k-1) 0)+1) then 1 else 0:=rfl
       have hll:lastX L (k+1)=if L.getD k 0=0 then lastX L k else k+1:=rfl
       have hzz:M<=k->L.getD k 0=0:=fun hx=>lastX_zero L 138 k (by rw[<- HH.out.m];exact hx) hlk
       have KOW:=Lib.hid (fun V hV=>HH.out.ow V hV k hlk)
       obtain ⟨y,hy⟩:∃ y,y=L.getD k 0:=⟨_,rfl⟩
       have HCK:Hid (∀ V,Below wr.heap.size wr V->V.cell? ⟨b,k,none⟩=some (.int .i64 y)):=Lib.hid fun V hV=>by rw[hy];exact HCE.out V (HR.out.trans (hV.mono HR.out.size)) k hlk
       rw[<- hy] at KA hlc hpp hll hzz KOW
       have HY:=Lib.hid hy
       obtain ⟨l,hl⟩:∃ l,l=lastX L k:=⟨_,rfl⟩
       obtain ⟨c,hc⟩:∃ c,c=pieX L k:=⟨_,rfl⟩
       rw[<- hl] at hle hll |-
       rw[<- hc] at hpe hpp |-
       have HPP:=Lib.hid hpp
       have HLX:=Lib.hid hll
       clear hy hl hc hpp hll hlk
       have hyy:(y != y)=false:=by simp
       by_cases hy0:y=0
       · have hb0:(y != 0)=false:=by simp[hy0]
         have hok:decide ((k:Int)∈Ks n)=false:=by
          rw[decide_eq_false_iff_not,<- hlc];exact fun e=>e hy0
         rw[hok] at hsx
         have HP2:Hid (pieX L (k+1)=c):=Lib.hid (by rw[HPP.out,if_neg (fun h=>h.1 hy0)];rfl)
         have HL2:Hid (lastX L (k+1)=l):=Lib.hid (by rw[HLX.out,if_pos hy0])
         clear hlc hok hzz hy0 KOW
         by_cases hkM:k<M
         · have xkm:decide ((k:Int)<(M:Int))=true:=decide_eq_true (by omega)
           have ekm:(k:Int)<(M:Int):=by omega
           clear hkM
           go_wp2_with (go_at_call 34;(with_reducible refine KA.out.mono ?_);rintro e w4 ⟨rfl,hb4⟩;have c4:=HCK.out _ hb4)
           have HB4:Hid (Below w2.heap.size w2 w4):=Lib.hid (HR.out.trans (hb4.mono HR.out.size))
           go_roundw
           case rel=>exact ⟨k+1,HK.out,by go_num,by rw[HL2.out],by rw[HP2.out],HB4⟩
           case measure=>have:=HK.out;simp[intOf];omega
         · have xkm:decide ((k:Int)<(M:Int))=false:=decide_eq_false (by omega)
           have ekm:¬ (k:Int)<(M:Int):=by omega
           clear hkM
           go_wp2_with (go_at_call 34;(with_reducible refine KA.out.mono ?_);rintro e w4 ⟨rfl,hb4⟩)
           have HB4:Hid (Below w2.heap.size w2 w4):=Lib.hid (HR.out.trans (hb4.mono HR.out.size))
           go_roundw
           case rel=>exact ⟨k+1,HK.out,by go_num,by rw[HL2.out],by rw[HP2.out],HB4⟩
           case measure=>have:=HK.out;simp[intOf];omega
       · have hb0:(y != 0)=true:=by simpa using hy0
         have hok:decide ((k:Int)∈Ks n)=true:=by
          rw[decide_eq_true_eq,<- hlc];exact hy0
         rw[hok] at hsx
         have hkM:k<M:=by
          rcases Nat.lt_or_ge k M with h|h
          · exact h
          · exact absurd (hzz h) hy0
         have xkm:decide ((k:Int)<(M:Int))=true:=decide_eq_true (by omega)
         have ekm:(k:Int)<(M:Int):=by omega
         have HL2:Hid (lastX L (k+1)=k+1):=Lib.hid (by rw[HLX.out,if_neg hy0])
         have KO:=Lib.hid fun V hV=>KOW V hV hy0
         clear hlc hok hzz KOW hkM
         by_cases hk0:k=0
         · have e0:¬ (0:Int)<(k:Int):=by omega
           have HP2:Hid (pieX L (k+1)=c+1):=Lib.hid (by rw[HPP.out,if_pos ⟨hy0,.inl (by rw[if_pos hk0])⟩])
           clear hk0 hy0
           go_wp2_with (first
            |(go_at_call 34;(with_reducible refine KA.out.mono ?_);rintro e w4 ⟨rfl,hb4⟩;have c4:=HCK.out _ hb4;have HB4:=Lib.hid (HBR.out.trans (hb4.mono HBR.out.size));have cf4:=(HH.out.md _ HB4.out).2.2)
            |(go_at_call 10;(with_reducible refine (KO.out _ HB4.out).mono ?_);rintro e w5 ⟨rfl,hb5⟩;have hbx:=hb5.trans ((below_box w5 (.cells #[.int .u16 (n:Int),.int .u16 (k:Int)] 36)).mono hb5.size);have hnx:=heap_alloc_new w5 (.cells #[.int .u16 (n:Int),.int .u16 (k:Int)] 36);have HB6:=Lib.hid (hb4.trans (hbx.mono hb4.size));have HB7:=Lib.hid (HBR.out.trans (HB6.out.mono HBR.out.size));have HB8:Hid (Below w2.heap.size w2 (w5.alloc (.cells #[.int .u16 (n:Int),.int .u16 (k:Int)] 36))):=Lib.hid (HR.out.trans (HB6.out.mono HR.out.size))))
           go_roundw
           case rel=>exact ⟨k+1,HK.out,by go_num,by rw[HL2.out];push_cast;rfl,by rw[HP2.out];push_cast;rfl,HB8⟩
           case measure=>have:=HK.out;simp[intOf];omega
         · have e0:(0:Int)<(k:Int):=by omega
           obtain ⟨x,hx⟩:∃ x,x=L.getD (k-1) 0:=⟨_,rfl⟩
           have KA2:Hid (∀ V,Below w.heap.size w V->Calls Tryz.prog 34 #[.pointer (some ⟨bf,0,none⟩),.int .i64 n,.int .i64 ((k:Int)-1)] V fun e w'=>e=.returned (.tuple #[.int .i64 x,.int .i64 0])/\Below V.heap.size V w'):=Lib.hid fun V hV=>by
            have:=HH.out.at_ V hV (k-1) (by omega)
            rw[<- hx,show ((k-1:Nat):Int)=(k:Int)-1 by omega] at this
            exact this
           have hxb:=HH.out.bd (k-1) (by omega)
           have hyb:=HH.out.bd k HK.out
           rw[<- hx] at hxb
           rw[<- HY.out] at hyb
           have hpp:=HPP.out
           rw[if_neg hk0,<- hx] at hpp
           have e1:IntKind.i64.wrap (y-1)=y-1:=IntWalk.i64_in _ (by omega)
           have HPX:=Lib.hid hpp
           clear hx hk0 hpp
           by_cases hx0:x=0
           · have hb1:(x==0)=true:=by simp[hx0]
             have HP2:Hid (pieX L (k+1)=c+1):=Lib.hid (by rw[HPX.out,if_pos ⟨hy0,.inl hx0⟩])
             clear hx0 hy0 hxb hyb
             go_wp2_with (first
              |(go_at_call 34;(with_reducible refine KA.out.mono ?_);rintro e w4 ⟨rfl,hb4⟩;have c4:=HCK.out _ hb4;have HB4:=Lib.hid (HBR.out.trans (hb4.mono HBR.out.size));have cf4:=(HH.out.md _ HB4.out).2.2)
              |(go_at_call 10;(with_reducible refine (KO.out _ HB4.out).mono ?_);rintro e w5 ⟨rfl,hb5⟩;have hbx:=hb5.trans ((below_box w5 (.cells #[.int .u16 (n:Int),.int .u16 (k:Int)] 36)).mono hb5.size);have hnx:=heap_alloc_new w5 (.cells #[.int .u16 (n:Int),.int .u16 (k:Int)] 36);have HB6:=Lib.hid (hb4.trans (hbx.mono hb4.size));have HB7:=Lib.hid (HBR.out.trans (HB6.out.mono HBR.out.size)))
              |(go_at_call 34;(with_reducible refine (KA2.out _ HB7.out).mono ?_);rintro e w8 ⟨rfl,hb8⟩;have HB8:Hid (Below w2.heap.size w2 w8):=Lib.hid (HR.out.trans ((HB6.out.trans (hb8.mono HB6.out.size)).mono HR.out.size))))
             go_roundw
             case rel=>exact ⟨k+1,HK.out,by go_num,by rw[HL2.out];push_cast;rfl,by rw[HP2.out];push_cast;rfl,HB8⟩
             case measure=>have:=HK.out;simp[intOf];omega
           · have hb1:(x==0)=false:=by simpa using hx0
             by_cases hxy:y=x+1
             · have hb2:(x != y-1)=false:=by simp[hxy]
               have HP2:Hid (pieX L (k+1)=c):=Lib.hid (by rw[HPX.out,if_neg (fun h=>h.2.elim hx0 fun h=>h hxy)];rfl)
               clear hx0 hy0 hxb hyb hxy
               go_wp2_with (first
                |(go_at_call 34;(with_reducible refine KA.out.mono ?_);rintro e w4 ⟨rfl,hb4⟩;have c4:=HCK.out _ hb4;have HB4:=Lib.hid (HBR.out.trans (hb4.mono HBR.out.size));have cf4:=(HH.out.md _ HB4.out).2.2)
                |(go_at_call 10;(with_reducible refine (KO.out _ HB4.out).mono ?_);rintro e w5 ⟨rfl,hb5⟩;have hbx:=hb5.trans ((below_box w5 (.cells #[.int .u16 (n:Int),.int .u16 (k:Int)] 36)).mono hb5.size);have hnx:=heap_alloc_new w5 (.cells #[.int .u16 (n:Int),.int .u16 (k:Int)] 36);have HB6:=Lib.hid (hb4.trans (hbx.mono hb4.size));have HB7:=Lib.hid (HBR.out.trans (HB6.out.mono HBR.out.size)))
                |(go_at_call 34;(with_reducible refine (KA2.out _ HB7.out).mono ?_);rintro e w8 ⟨rfl,hb8⟩;have HB8:Hid (Below w2.heap.size w2 w8):=Lib.hid (HR.out.trans ((HB6.out.trans (hb8.mono HB6.out.size)).mono HR.out.size))))
               go_roundw
               case rel=>exact ⟨k+1,HK.out,by go_num,by rw[HL2.out];push_cast;rfl,by rw[HP2.out],HB8⟩
               case measure=>have:=HK.out;simp[intOf];omega
             · have hb2:(x != y-1)=true:=by simp;omega
               have HP2:Hid (pieX L (k+1)=c+1):=Lib.hid (by rw[HPX.out,if_pos ⟨hy0,.inr hxy⟩])
               clear hx0 hy0 hxb hyb hxy
               go_wp2_with (first
                |(go_at_call 34;(with_reducible refine KA.out.mono ?_);rintro e w4 ⟨rfl,hb4⟩;have c4:=HCK.out _ hb4;have HB4:=Lib.hid (HBR.out.trans (hb4.mono HBR.out.size));have cf4:=(HH.out.md _ HB4.out).2.2)
                |(go_at_call 10;(with_reducible refine (KO.out _ HB4.out).mono ?_);rintro e w5 ⟨rfl,hb5⟩;have hbx:=hb5.trans ((below_box w5 (.cells #[.int .u16 (n:Int),.int .u16 (k:Int)] 36)).mono hb5.size);have hnx:=heap_alloc_new w5 (.cells #[.int .u16 (n:Int),.int .u16 (k:Int)] 36);have HB6:=Lib.hid (hb4.trans (hbx.mono hb4.size));have HB7:=Lib.hid (HBR.out.trans (HB6.out.mono HBR.out.size)))
                |(go_at_call 34;(with_reducible refine (KA2.out _ HB7.out).mono ?_);rintro e w8 ⟨rfl,hb8⟩;have HB8:Hid (Below w2.heap.size w2 w8):=Lib.hid (HR.out.trans ((HB6.out.trans (hb8.mono HB6.out.size)).mono HR.out.size))))
               go_roundw
               case rel=>exact ⟨k+1,HK.out,by go_num,by rw[HL2.out];push_cast;rfl,by rw[HP2.out];push_cast;rfl,HB8⟩
               case measure=>have:=HK.out;simp[intOf];omega
     · have ek:¬ (k:Int)<138:=by omega
       obtain rfl:k=138:=by omega
       have KP:=Lib.hid (HH.out.pi _ HBR.out)
       have hMl:M=lastX L 138:=HH.out.m
       rw[<- hMl]
       obtain ⟨c,hc⟩:∃ c,c=pieX L 138:=⟨_,rfl⟩
       rw[<- hc] at KP |-
       have e1:((M:Int) != (M:Int))=false:=by simp
       have e2:((c:Int) != (c:Int))=false:=by simp
       clear hMl hc
       go_wp2_with (go_at_call 20;(with_reducible refine KP.out.mono ?_);rintro e w4 ⟨rfl,hb4⟩)
       have HB4:Hid (Below w.heap.size w w4):=Lib.hid (HBR.out.trans (hb4.mono HBR.out.size))
       go_roundw
       case rel=>exact ⟨n+1,by omega,by go_num,HB4⟩
       case measure=>simp[intOf];omega
  · obtain rfl:n=6:=by omega
    go_wp2
    go_ret
    exact ⟨by trivial,HB.out⟩
def frC (O:List (Int × Int)):Nat->Nat
 |0=>0
 |k+1=>frC O k+if freeJ O k=true then 1 else 0
theorem frC_le (O:List (Int × Int)):∀ k,frC O k<=k
 |0=>Nat.le_refl _
 |k+1=>by
  rw[frC]
  have:=frC_le O k
  split <;> omega
theorem frc_new:∀ kk,kk<5->1<=kk->frC (newO kk) (64*kk)+48=62*kk:=by decide +kernel
structure Ini (w w':World) (P:Nat->Prop) (d p:Value) (X:XSt) (kk bf bm:Nat) (bn bp:Nat->Nat) (lim:Int):Prop where
 sd:Fsd w w' P d p X (newS kk) (N14 4) (newO kk) kk F14 bf
 md:Md w' bm bn bp (fun _=>[]) lim
 ap:∀ k,Mob bm bn bp k->¬ P k/\w.heap.size<=k
section
variable {w w':World}{P:Nat->Prop}{d p:Value}{X:XSt}{kk bf bm:Nat}{bn bp:Nat->Nat}{lim:Int}
theorem Ini.low (h:Ini w w' P d p X kk bf bm bn bp lim) {V:World} (hb:Below w'.heap.size w' V):Ini w V P d p X kk bf bm bn bp lim:=⟨h.sd.low hb,h.md.low hb,h.ap⟩
theorem Ini.set (h:Ini w w' P d p X kk bf bm bn bp lim) (l2:Int):Ini w (w'.setCell ⟨bm,6,none⟩ (.int .i64 l2)) P d p X kk bf bm bn bp l2:=by
 have hw:=Wrote.setCell w' bm 6 (.int .i64 l2)
 have hbm:∀ i,i<6->bn i≠bm:=fun i hi=>by
  obtain ⟨ao,cap,a,_⟩:=h.md.nd i hi
  exact obj_ne a h.md.row (cells_ne (by rw[rowM_size];simp))
 have hbf:bm≠bf:=h.md.ne_fs h.sd.fs (.inl rfl)
 have ha:=h.ap bm (.inl rfl)
 refine ⟨h.sd.far (Chg.of_wrote1 hw) (fun x hx=>by rw[hx];exact ha.2) (fun x hx e=>by rw[e] at hx;exact ha.1 hx) (fun e=>hbf e.symm),⟨?_,fun i hi=>(h.md.nd i hi).keep (hw.2.2.2.2 _ (hbm i hi)) (hw.2.2.2.2 _ (h.md.bp_ne hi).1),h.md.inj⟩,h.ap⟩
 rw[heap_setCell_same w' bm 6 _ _ _ h.md.row]
 rfl
theorem Ini.owner (h:Ini w w' P d p X kk bf bm bn bp lim) {j:Nat} (hj:j<64*kk):Calls Tryz.prog 10 #[p,.int .i64 j] w' fun e w2=>e=.returned (.tuple #[.agg #[.int .u16 ((newO kk).getD j (0,0)).1,.int .u16 ((newO kk).getD j (0,0)).2],.int .i64 0])/\Below w'.heap.size w' w2:=by
 have hc:X.cur=X.is:=by unfold XSt.cur;rw[h.sd.wi];rfl
 exact spOwner_yes h.sd.inv (by rw[hc];exact h.sd.pl.has) h.sd.pl.ok hj
theorem Ini.ps (h:Ini w w' P d p X kk bf bm bn bp (62*(kk:Int)-48)) (h1:1<=kk) (h5:kk<5):Ps w w' P d p X (newS kk) (N14 4) (newO kk) kk F14 bf bm bn bp (fun _=>[]) (62*(kk:Int)-48):=by
 have ht:totM (fun _=>[]) 6=0:=by decide +kernel
 refine ⟨h.sd,h.md,h.ap,⟨fun n hn=>?_,fun b hb=>n14_loc (by decide) (by decide) hb,fun n h2 h5=>⟨fun b hb=>?_,?_⟩,by rw[cnt_new kk h5 h1,ht],rfl,by rw[ht];push_cast;omega⟩⟩
 · rw[n14_kind (by decide) hn]
   split
   · exact ⟨fun _=>by omega,fun _=>by decide⟩
   · split
     · exact ⟨fun _=>by omega,fun _=>by decide⟩
     · exact ⟨fun e=>absurd rfl e,fun e=>by omega⟩
 · rw[n14_loc (by decide) (by omega) (by omega)]
   exact ⟨fun e=>absurd rfl e,fun e=>absurd e List.not_mem_nil⟩
 · have:=n14_loc (c:=4) (m:=n) (by decide) (by omega) (i:=138) (by decide)
   rw[locX_map] at this
   rw[this]
   exact ⟨fun e=>absurd rfl e,fun ⟨b,_,_,e⟩=>absurd e List.not_mem_nil⟩
end
section
variable {w0 w:World}{P:Nat->Prop}{d p:Value}{X:XSt}{S:List Int}{N:List (List Int)}{O:List (Int × Int)}{kk:Nat}{F:Nat->List Int}{bf bm:Nat}{bn bp:Nat->Nat}{Ks:Nat->List Int}{lim:Int}
theorem Ps.used (h:Ps w0 w P d p X S N O kk F bf bm bn bp Ks lim) (h1:1<=kk):Calls Tryz.prog 8 #[p,.int .i64 (64*(kk:Int))] w fun e w'=>e=.returned (.tuple #[.int .i64 (6+(totM Ks 6:Int)),.int .i64 0])/\Below w.heap.size w w':=by
 have hc:X.cur=X.is:=by unfold XSt.cur;rw[h.sd.wi];rfl
 have:=spUsed_yes h.sd.inv (by rw[hc];exact h.sd.pl.has) h.sd.pl.ok h1 (Nat.le_refl kk)
 rw[h.mr.cn] at this
 push_cast at this
 exact this
end
theorem lFmP_long {w:World}{v:Value} (gr:Int) {S:List O14} (hv:OpsV w v S) (hl:120<S.length):Calls Tryz.prog 3 #[.int .u8 gr,v] w fun e w'=>e=.returned (.bool true)/\Below w.heap.size w w':=by
 have KA1:=Lib.hid (awake14_any w)
 have KA:=Lib.hid awake14_any
 obtain ⟨ao,L,cap,rfl,hL⟩:∃ ao L cap,v=.slice ao L cap/\L=S.length:=by
  rcases hv with ⟨a,c,rfl,rfl⟩| ⟨b,off,cap,rfl,_⟩
  · exact ⟨_,_,_,rfl,rfl⟩
  · exact ⟨_,_,_,rfl,rfl⟩
 have hL2:(120:Int)<(L:Int):=by omega
 clear hv hl hL
 go_enter Tryz.func3,Tryz.ntmps3
 go_wp2_with (first
  |(go_at_call 6;(with_reducible refine KA1.out.mono ?_);rintro e w2 ⟨rfl,hb2⟩)
  |(go_at_call 6;refine (KA.out _).mono ?_;rintro e w3 ⟨rfl,hb3⟩))
 go_ret
 exact ⟨rfl,hb2.trans (hb3.mono hb2.size)⟩
set_option maxHeartbeats 4000000 in
theorem lFmP_short {w:World}{v:Value}{gr:Int} (hgr:0<=gr/\gr<=255) {S:List O14} (hv:OpsV w v S) (hl:S.length<=120):Calls Tryz.prog 3 #[.int .u8 gr,v] w fun e w'=>e=.returned (.bool true)/\Below w.heap.size w w':=by
 have KA:=Lib.hid (awake14_any w)
 obtain ⟨r,hr⟩:∃ r:Nat,(r:Int)=gr%4:=⟨(gr%4).toNat,by omega⟩
 have hr4:r<4:=by omega
 have ht:gr.tmod 4=r:=by rw[Int.tmod_eq_emod_of_nonneg hgr.1];exact hr.symm
 have hr1:(r:Int)<4:=by omega
 obtain ⟨kk,hkk⟩:∃ kk,kk=r+1:=⟨_,rfl⟩
 have h64:64*(kk:Int)=64*(1+(r:Int)):=by rw[hkk];push_cast;omega
 have KM:Hid (∀ V:World,Below w.heap.size w V->Calls Tryz.prog 7 #[.int .i64 (64*(1+(r:Int)))] V fun e w'=>∃ bf b P d X,e=.returned (.pointer (some ⟨bf,0,none⟩))/\Fsd w w' P d (.pointer (some ⟨b,0,none⟩)) X (newS kk) (N14 4) (newO kk) kk F14 bf):=Lib.hid fun V hb=>by
  have:=made_of (kk:=kk) (by omega) (by omega) w hb
  rw[h64] at this
  exact this
 have KU0:Hid (∀ (V:World) (P:Nat->Prop) (d:Value) (b bf:Nat) (X:XSt),Fsd w V P d (.pointer (some ⟨b,0,none⟩)) X (newS kk) (N14 4) (newO kk) kk F14 bf->Calls Tryz.prog 8 #[.pointer (some ⟨b,0,none⟩),.int .i64 (64*(1+(r:Int)))] V fun e w'=>e=.returned (.tuple #[.int .i64 6,.int .i64 0])/\Fsd w w' P d (.pointer (some ⟨b,0,none⟩)) X (newS kk) (N14 4) (newO kk) kk F14 bf):=Lib.hid fun V P d b bf X h=>by
  have hc:X.cur=X.is:=by unfold XSt.cur;rw[h.wi];rfl
  have:=spUsed_yes h.inv (by rw[hc];exact h.pl.has) h.pl.ok (m:=kk) (by omega) (Nat.le_refl kk)
  rw[cnt_new kk (by omega) (by omega),h64] at this
  exact this.mono fun e w' ⟨he,hb⟩=>⟨he,h.low hb⟩
 have KN:Hid (∀ (V:World) (P:Nat->Prop) (d:Value) (b bf:Nat) (X:XSt),Fsd w V P d (.pointer (some ⟨b,0,none⟩)) X (newS kk) (N14 4) (newO kk) kk F14 bf->Calls Tryz.prog 9 #[.int .i64 0] V fun e w'=>∃ bm bn bp,e=.returned (.pointer (some ⟨bm,0,none⟩))/\Hid (Ini w w' P d (.pointer (some ⟨b,0,none⟩)) X kk bf bm bn bp 0)):=Lib.hid fun V P d b bf X h=>
  (newM_of V).mono fun e w' ⟨bm,bn,bp,he,hm,hk,hb⟩=>⟨bm,bn,bp,he,⟨h.low hb,hm,fun k hx=>⟨fun hp=>by have:=hk k hx;have:=h.inv.lt k hp;omega,by have:=hk k hx;have:=h.be.size;omega⟩⟩⟩
 have HU:Hid (∀ (V:World) (P:Nat->Prop) (d p:Value) (X:XSt) (S:List Int) (N:List (List Int)) (O:List (Int × Int)) (F:Nat->List Int) (bf bm:Nat) (bn bp:Nat->Nat) (Ks:Nat->List Int) (lim:Int),Ps w V P d p X S N O kk F bf bm bn bp Ks lim->Calls Tryz.prog 8 #[p,.int .i64 (64*(1+(r:Int)))] V fun e w'=>e=.returned (.tuple #[.int .i64 (6+(totM Ks 6:Int)),.int .i64 0])/\Ps w w' P d p X S N O kk F bf bm bn bp Ks lim):=Lib.hid fun V P d p X S N O F bf bm bn bp Ks lim h=>by
  have:=h.used (by omega)
  rw[h64] at this
  exact this.mono fun e w' ⟨he,hb⟩=>⟨he,h.low hb⟩
 have HKK:Hid (1<=kk/\kk<5):=Lib.hid (by omega)
 have HFR:=Lib.hid (frc_new kk (by omega) (by omega))
 have HK64:Hid (64*(kk:Int)=64*(1+(r:Int))):=Lib.hid h64
 obtain ⟨ao,L,cap,rfl,hL,hcell⟩:∃ ao L cap,v=.slice ao L cap/\L=S.length/\(0<L->∃ b off,ao=some ⟨b,off,none⟩/\∀ i,i<L->∃ o:O14,o.ok/\b<w.heap.size/\w.cell? ⟨b,off+i*4,none⟩=some (.int .i64 o.k)/\w.cell? ⟨b,off+i*4+1,none⟩=some (.int .i64 o.n)/\w.cell? ⟨b,off+i*4+2,none⟩=some (.int .i64 o.i)/\w.cell? ⟨b,off+i*4+3,none⟩=some (.int .i64 o.v)):=by
  rcases hv with ⟨a,c,rfl,rfl⟩| ⟨b,off,cap,rfl,hc⟩
  · exact ⟨_,_,_,rfl,rfl,fun h=>absurd h (by decide)⟩
  · exact ⟨_,_,_,rfl,rfl,fun _=>⟨b,off,rfl,fun i hi=>⟨_,(hc i hi).2.2,(hc i hi).1,(hc i hi).2.1 0 _ rfl,(hc i hi).2.1 1 _ rfl,(hc i hi).2.1 2 _ rfl,(hc i hi).2.1 3 _ rfl⟩⟩⟩
 have hL2:¬ (120:Int)<(L:Int):=by omega
 have hL3:(L:Int)<=120:=by omega
 have HC:=Lib.hid hcell
 clear hr hgr hkk h64 hv hl hL hcell
 go_enter Tryz.func3,Tryz.ntmps3
 go_wp2_with (first
  |(go_at_call 6;refine KA.out.mono ?_;rintro e w2 ⟨rfl,hb2⟩)
  |(go_at_call 7;refine (KM.out _ hb2).mono ?_;rintro e w3 ⟨bf,b,P,d,X,rfl,hf3⟩;have cf3:=hf3.fs.cell)
  |(go_at_call 8;refine (KU0.out _ _ _ _ _ _ hf3).mono ?_;rintro e w4 ⟨rfl,hf4⟩)
  |(go_at_call 9;refine (KN.out _ _ _ _ _ _ hf4).mono ?_;rintro e w5 ⟨bm,bn,bp,rfl,HI5⟩))
 clear hf3 hb2 cf3 hf4
 go_loopw [43] (fun t WI=>∃ j:Nat,j<=64*kk/\t=.int .i64 j/\Hid (Ini w WI P d (.pointer (some ⟨b,0,none⟩)) X kk bf bm bn bp (frC (newO kk) j:Nat))) (fun t _=>64*kk-(intOf t).toNat)
 case atStart=>exact ⟨0,by omega,rfl,HI5⟩
 case round=>
  obtain ⟨j,hj,rfl,HS⟩:=hrel
  clear HI5
  by_cases hjl:j<64*kk
  · have ejl:(j:Int)<64*(1+(r:Int)):=by have:=HK64.out;omega
    have cf:=HS.out.sd.fs.cell
    have KO:=Lib.hid (HS.out.owner hjl)
    have hfl:=frC_le (newO kk) j
    obtain ⟨x,hx⟩:∃ x,x=frC (newO kk) j:=⟨_,rfl⟩
    have hx1:frC (newO kk) (j+1)=frC (newO kk) j+if freeJ (newO kk) j=true then 1 else 0:=rfl
    have hfj:freeJ (newO kk) j=decide (((newO kk).getD j (0,0)).1=0):=rfl
    rw[<- hx] at hfl hx1
    obtain ⟨u,hu⟩:∃ u,u=((newO kk).getD j (0,0)).1:=⟨_,rfl⟩
    obtain ⟨u2,hu2⟩:∃ u2,u2=((newO kk).getD j (0,0)).2:=⟨_,rfl⟩
    rw[<- hu,<- hu2] at KO
    rw[<- hu] at hfj
    have HL:Hid (∀ W,Below wr.heap.size wr W->W.cell? ⟨bm,6,none⟩=some (.int .i64 (x:Int))/\W.frozen? ⟨bm,6,none⟩=false):=Lib.hid fun W hb=>by
     have:=(HS.out.low hb).md
     exact ⟨by rw[hx];exact this.cl,this.free 6⟩
    have HST:Hid (∀ W,Below wr.heap.size wr W->Ini w W P d (.pointer (some ⟨b,0,none⟩)) X kk bf bm bn bp (x:Nat)/\Ini w (W.setCell ⟨bm,6,none⟩ (.int .i64 ((x:Int)+1))) P d (.pointer (some ⟨b,0,none⟩)) X kk bf bm bn bp (x+1:Nat)):=Lib.hid fun W hb=>by
     have:=HS.out.low hb
     refine ⟨by rw[hx];exact this,?_⟩
     have:=this.set ((x:Int)+1)
     push_cast
     exact this
    have HJ:=Lib.hid hjl
    have hxb:(x:Int)<=256:=by have:=HKK.out.2;omega
    clear hx hu hu2 hfl hjl
    by_cases hu0:u=0
    · have HX:Hid (frC (newO kk) (j+1)=x+1):=Lib.hid (by rw[hx1,hfj,decide_eq_true hu0];rfl)
      have hub:(u==0)=true:=by simp[hu0]
      clear hx1 hfj hu0
      go_wp2_with (go_at_call 10;refine KO.out.mono ?_;rintro e w7 ⟨rfl,hb7⟩;have hbx:=hb7.trans ((below_box w7 (.cells #[.int .u16 u,.int .u16 u2] 36)).mono hb7.size);have hnx:=heap_alloc_new w7 (.cells #[.int .u16 u,.int .u16 u2] 36);obtain ⟨c6,f6⟩:=HL.out _ hbx)
      have HI7:Hid (Ini w ((w7.alloc (.cells #[.int .u16 u,.int .u16 u2] 36)).setCell ⟨bm,6,none⟩ (.int .i64 ((x:Int)+1))) P d (.pointer (some ⟨b,0,none⟩)) X kk bf bm bn bp (frC (newO kk) (j+1):Nat)):=Lib.hid (by rw[HX.out];exact (HST.out _ hbx).2)
      go_roundw
      case rel=>exact ⟨j+1,HJ.out,by go_num,HI7⟩
      case measure=>have:=HJ.out;simp[intOf];omega
    · have HX:Hid (frC (newO kk) (j+1)=x):=Lib.hid (by rw[hx1,hfj,decide_eq_false hu0];rfl)
      have hub:(u==0)=false:=by simpa using hu0
      clear hx1 hfj hu0
      go_wp2_with (go_at_call 10;refine KO.out.mono ?_;rintro e w7 ⟨rfl,hb7⟩;have hbx:=hb7.trans ((below_box w7 (.cells #[.int .u16 u,.int .u16 u2] 36)).mono hb7.size);have hnx:=heap_alloc_new w7 (.cells #[.int .u16 u,.int .u16 u2] 36))
      have HI7:Hid (Ini w (w7.alloc (.cells #[.int .u16 u,.int .u16 u2] 36)) P d (.pointer (some ⟨b,0,none⟩)) X kk bf bm bn bp (frC (newO kk) (j+1):Nat)):=Lib.hid (by rw[HX.out];exact (HST.out _ hbx).1)
      go_roundw
      case rel=>exact ⟨j+1,HJ.out,by go_num,HI7⟩
      case measure=>have:=HJ.out;simp[intOf];omega
  · obtain rfl:j=64*kk:=by omega
    have ejl:¬ ((64*kk:Nat):Int)<64*(1+(r:Int)):=by have:=HK64.out;omega
    have HP0:Hid (PsE w d (.pointer (some ⟨b,0,none⟩)) (newS kk) kk bf bm (62*(kk:Int)-48) wr):=Lib.hid (by
     have h:=HS.out
     have e:((frC (newO kk) (64*kk):Nat):Int)=62*(kk:Int)-48:=by have:=HFR.out;omega
     rw[e] at h
     exact ⟨P,X,_,_,_,bn,bp,_,h.ps HKK.out.1 HKK.out.2⟩)
    clear HS
    generalize hlim:62*(kk:Int)-48=lim at HP0
    go_wp2
    go_loopw [74] (fun t WI=>∃ c:Nat,c<=L/\t=.int .i64 c/\Hid (PsE w d (.pointer (some ⟨b,0,none⟩)) (newS kk) kk bf bm lim WI)) (fun t _=>L-(intOf t).toNat)
    case atStart=>exact ⟨0,by omega,rfl,HP0⟩
    case round=>
     obtain ⟨c,hc,rfl,HS⟩:=hrel
     clear HP0
     by_cases hcl:c<L
     · obtain ⟨bs,off,rfl,hcells⟩:=HC.out (by omega)
       obtain ⟨o,ho,hbl,y0,y1,y2,y3⟩:=hcells c hcl
       have ecl:(c:Int)<(L:Int):=by omega
       obtain ⟨P,X,N,O,F,bn,bp,Ks,h⟩:=HS.out
       have z0:=(h.sd.be.cell (p:=⟨bs,off+c*4,none⟩) hbl).trans y0
       have z1:=(h.sd.be.cell (p:=⟨bs,off+c*4+1,none⟩) hbl).trans y1
       have z2:=(h.sd.be.cell (p:=⟨bs,off+c*4+2,none⟩) hbl).trans y2
       have z3:=(h.sd.be.cell (p:=⟨bs,off+c*4+3,none⟩) hbl).trans y3
       have KD:=Lib.hid (do14_of h o.k o.n o.i o.v ho.i.2)
       obtain ⟨x0,x1,x2,x3⟩:=o
       clear y0 y1 y2 y3 hcells h HS ho hbl
       go_wp2_with (go_at_call 11;(with_reducible refine KD.out.mono ?_);rintro e w6 ⟨rfl,h6⟩)
       have HS6:=Lib.hid h6
       clear h6
       go_roundw
       case rel=>exact ⟨c+1,by omega,by go_num,HS6⟩
       case measure=>simp[intOf];omega
     · obtain rfl:c=L:=by omega
       obtain ⟨P,X,N,O,F,bn,bp,Ks,h⟩:=HS.out
       have cf:=h.sd.fs.cell
       have KU:=Lib.hid (HU.out _ _ _ _ _ _ _ _ _ _ _ _ _ _ _ h)
       have KM2:Hid (∀ V,Ps w V P d (.pointer (some ⟨b,0,none⟩)) X (newS kk) N O kk F bf bm bn bp Ks lim->Calls Tryz.prog 12 #[.pointer (some ⟨bm,0,none⟩)] V fun e w'=>e=.returned (.int .i64 (totM Ks 6:Nat))/\V=w'):=Lib.hid fun V h=>used_of h.md
       have KW:Hid (∀ V,Ps w V P d (.pointer (some ⟨b,0,none⟩)) X (newS kk) N O kk F bf bm bn bp Ks lim->Calls Tryz.prog 13 #[.pointer (some ⟨bm,0,none⟩),.pointer (some ⟨bf,0,none⟩)] V fun e w'=>e=.returned (.bool true)/\Below w.heap.size w w'):=Lib.hid fun V h=>(whole_of h).mono fun e w' ⟨he,hb⟩=>⟨he,h.sd.be.trans (hb.mono h.sd.be.size)⟩
       have htl:=totM_le Ks 6
       obtain ⟨T,hT⟩:∃ T,T=totM Ks 6:=⟨_,rfl⟩
       rw[<- hT] at KU KM2 htl
       have hTT:((6+(T:Int))==6+(T:Int))=true:=by simp
       clear hT h HS
       go_wp2_with (first
        |(go_at_call 8;(with_reducible refine KU.out.mono ?_);rintro e w6 ⟨rfl,h6⟩;have H6:=Lib.hid h6;clear h6)
        |(go_at_call 12;(with_reducible refine (KM2.out _ H6.out).mono ?_);rintro e w' ⟨rfl,rfl⟩)
        |(go_at_call 13;(with_reducible refine (KW.out _ H6.out).mono ?_);rintro e w8 ⟨rfl,hb8⟩))
       go_ret
       exact ⟨by trivial,hb8⟩
theorem lFmPlays_of {w:World}{v:Value}{gr:Int} (hgr:0<=gr/\gr<=255) {S:List O14} (hv:OpsV w v S):Calls Tryz.prog 3 #[.int .u8 gr,v] w fun e w'=>e=.returned (.bool true)/\Below w.heap.size w w':=by
 by_cases h:120<S.length
 · exact lFmP_long gr hv h
 · exact lFmP_short hgr hv (by omega)
end Go.Proofs.YtaakepjgpnaecaaGreat
