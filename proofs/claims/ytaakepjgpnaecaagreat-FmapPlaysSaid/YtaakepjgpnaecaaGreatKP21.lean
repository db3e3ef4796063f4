/- What the law rests on: part 21. -/
import Derived.Test.YtaakepjgpnaecaaGreatKP20
set_option linter.unusedVariables false
namespace Go.Proofs.YtaakepjgpnaecaaGreat
set_option maxRecDepth 100000
open Go.RowKit BM
def takeNo (b l i j:Int):Prop:=frmB b=false\/frmB l=false\/b<l\/frmO i j=false\/i=0\/i=65535
theorem spTake_no {b l g i j:Int} (hb:b<=9223372036854775807) (hl:l<=9223372036854775807) (hi:0<=i/\i<=65535) (hj:0<=j/\j<=65535) (hno:takeNo b l i j) (p:Value) (w:World):
 Calls Tryz.prog 118 #[p,.int .i64 b,.int .i64 l,.int .i64 g,.agg #[.int .u16 i,.int .u16 j]] w fun e w'=>e=.returned (.tuple #[.int .i64 0,.int .i64 1])/\Below w.heap.size w w':=by
 have hb1:=below_box w (.cells #[.int .u16 i,.int .u16 j] 36)
 cases h1:frmB b
 · have K1:=Lib.hid (fun W:World=>gFormed_no b hb h1 W)
   clear hno h1
   go_enter Tryz.func118,Tryz.ntmps118
   go_wp2_with (go_at_call 59;refine (K1.out _).mono ?_;rintro e w' ⟨rfl,rfl⟩)
   go_ret2
   exact ⟨rfl,hb1⟩
 · have K1:Hid (∀ W:World,Calls Tryz.prog 59 #[.int .i64 b] W fun e w'=>e=.returned (.bool true)/\W=w'):=Lib.hid fun W=>by rw[<- h1];exact gFormed_any b hb W
   cases h2:frmB l
   · have K2:=Lib.hid (fun W:World=>gFormed_no l hl h2 W)
     clear hno h1 h2
     go_enter Tryz.func118,Tryz.ntmps118
     go_wp2_with (first
      |(go_at_call 59;(with_reducible refine (K1.out _).mono ?_);rintro e w' ⟨rfl,rfl⟩)
      |(go_at_call 59;(with_reducible refine (K2.out _).mono ?_);rintro e w' ⟨rfl,rfl⟩))
     go_ret2
     exact ⟨rfl,hb1⟩
   · have K2:Hid (∀ W:World,Calls Tryz.prog 59 #[.int .i64 l] W fun e w'=>e=.returned (.bool true)/\W=w'):=Lib.hid fun W=>by rw[<- h2];exact gFormed_any l hl W
     by_cases h3:b<l
     · clear hno h1 h2
       go_enter Tryz.func118,Tryz.ntmps118
       go_wp2_with (first
        |(go_at_call 59;(with_reducible refine (K1.out _).mono ?_);rintro e w' ⟨rfl,rfl⟩)
        |(go_at_call 59;(with_reducible refine (K2.out _).mono ?_);rintro e w' ⟨rfl,rfl⟩))
       go_ret2
       exact ⟨rfl,hb1⟩
     · cases h4:freeP i j
       · have K3:=Lib.hid (spFree_is i j false h4)
         cases h5:frmO i j
         · have K4:=Lib.hid (grForm_is i j hi hj false h5)
           have HR:=Lib.hid (fun (W:World) (hb:Below (w.alloc (.cells #[.int .u16 i,.int .u16 j] 36)).heap.size (w.alloc (.cells #[.int .u16 i,.int .u16 j] 36)) W)=>show W.cell? ⟨w.heap.size,0,none⟩=some (.int .u16 i)/\W.cell? ⟨w.heap.size,1,none⟩=some (.int .u16 j) from ⟨cell_of_row _ _ _ _ _ _ (below_hold (heap_alloc_new w _) hb),cell_of_row _ _ _ _ _ _ (below_hold (heap_alloc_new w _) hb)⟩)
           have HB1:=Lib.hid hb1
           clear hno h1 h2 h4 h5 hb1
           go_enter Tryz.func118,Tryz.ntmps118
           go_wp2_with (first
            |(go_at_call 59;(with_reducible refine (K1.out _).mono ?_);rintro e w' ⟨rfl,rfl⟩)
            |(go_at_call 59;(with_reducible refine (K2.out _).mono ?_);rintro e w' ⟨rfl,rfl⟩)
            |(go_at_call 63;refine (K3.out _).mono ?_;rintro e w2 ⟨rfl,hb2⟩;obtain ⟨c0,c1⟩:=HR.out _ hb2;have hb02:=HB1.out.trans (hb2.mono HB1.out.size))
            |(go_at_call 149;refine (K4.out _).mono ?_;rintro e w3 ⟨rfl,hb3⟩))
           go_ret2
           exact ⟨rfl,hb02.trans (hb3.mono hb02.size)⟩
         · have K4:=Lib.hid (grForm_is i j hi hj true h5)
           obtain rfl:i=65535:=by
            have e0:i≠0:=fun e=>by subst e;rw[frm_zero h5] at h4;exact absurd h4 (by decide)
            rcases hno with h|h|h|h|h|h
            · rw[h1] at h;cases h
            · rw[h2] at h;cases h
            · exact absurd h h3
            · rw[h5] at h;cases h
            · exact absurd h e0
            · exact h
           have HR:=Lib.hid (fun (W:World) (hb:Below (w.alloc (.cells #[.int .u16 65535,.int .u16 j] 36)).heap.size (w.alloc (.cells #[.int .u16 65535,.int .u16 j] 36)) W)=>show W.cell? ⟨w.heap.size,0,none⟩=some (.int .u16 65535)/\W.cell? ⟨w.heap.size,1,none⟩=some (.int .u16 j) from ⟨cell_of_row _ _ _ _ _ _ (below_hold (heap_alloc_new w _) hb),cell_of_row _ _ _ _ _ _ (below_hold (heap_alloc_new w _) hb)⟩)
           have HB1:=Lib.hid hb1
           clear hno h1 h2 h4 h5 hb1
           go_enter Tryz.func118,Tryz.ntmps118
           go_wp2_with (first
            |(go_at_call 59;(with_reducible refine (K1.out _).mono ?_);rintro e w' ⟨rfl,rfl⟩)
            |(go_at_call 59;(with_reducible refine (K2.out _).mono ?_);rintro e w' ⟨rfl,rfl⟩)
            |(go_at_call 63;refine (K3.out _).mono ?_;rintro e w2 ⟨rfl,hb2⟩;obtain ⟨c0,c1⟩:=HR.out _ hb2;have hb02:=HB1.out.trans (hb2.mono HB1.out.size))
            |(go_at_call 149;refine (K4.out _).mono ?_;rintro e w3 ⟨rfl,hb3⟩;obtain ⟨c30,c31⟩:=HR.out _ (hb2.trans (hb3.mono hb2.size))))
           go_ret2
           exact ⟨rfl,hb02.trans (hb3.mono hb02.size)⟩
       · have K3:=Lib.hid (spFree_is i j true h4)
         have HB1:=Lib.hid hb1
         clear hno h1 h2 h4 hb1
         go_enter Tryz.func118,Tryz.ntmps118
         go_wp2_with (first
          |(go_at_call 59;(with_reducible refine (K1.out _).mono ?_);rintro e w' ⟨rfl,rfl⟩)
          |(go_at_call 59;(with_reducible refine (K2.out _).mono ?_);rintro e w' ⟨rfl,rfl⟩)
          |(go_at_call 63;refine (K3.out _).mono ?_;rintro e w2 ⟨rfl,hb2⟩))
         go_ret2
         exact ⟨rfl,HB1.out.trans (hb2.mono HB1.out.size)⟩
section
variable {w:World}{P:Nat->Prop}{d p:Value}{X:XSt}{O D:List (Int × Int)}{k:Nat}
structure TakeK (w:World) (p:Value) (O:List (Int × Int)) (a m:Nat) (g i j:Int) (P:Nat->Prop):Prop where
 f1:∀ W:World,Calls Tryz.prog 59 #[.int .i64 (64*(a:Int))] W fun e w'=>e=.returned (.bool true)/\W=w'
 f2:∀ W:World,Calls Tryz.prog 59 #[.int .i64 (64*(m:Int))] W fun e w'=>e=.returned (.bool true)/\W=w'
 fr:∀ W:World,Calls Tryz.prog 63 #[.agg #[.int .u16 i,.int .u16 j]] W fun e w'=>e=.returned (.bool false)/\Below W.heap.size W w'
 fo:∀ W:World,Calls Tryz.prog 149 #[.agg #[.int .u16 i,.int .u16 j]] W fun e w'=>e=.returned (.bool true)/\Below W.heap.size W w'
 us:∀ W:World,Below w.heap.size w W->Calls Tryz.prog 8 #[p,.int .i64 (64*(a:Int))] W fun e w'=>e=.returned (.tuple #[.int .i64 (cntU O (64*a)),.int .i64 0])/\Below W.heap.size W w'
 op:∀ W:World,Calls Tryz.prog 25 #[.int .i64 (64*(m:Int))] W fun e w'=>e=.returned (.int .i64 (62*(m:Int)-42))/\W=w'
 fi:∀ W:World,Below w.heap.size w W->Calls Tryz.prog 155 #[p,.int .i64 (64*(m:Int)),.int .i64 g] W fun e w'=>e=.returned (.tuple #[.int .i64 (findS O (64*m) (goalS (64*m) g)),.int .i64 0])/\Below W.heap.size W w'
theorem takeK (h:SInv w P d p X) (hH:Has X.cur O k) (hO:OOk O k) {a m:Nat} (hm1:1<=m) (hma:m<=a) (hak:a<=k) (g:Int) {i j:Int} (hi:0<=i/\i<=65535) (hj:0<=j/\j<=65535) (hf:frmO i j=true) (h0:i≠0):TakeK w p O a m g i j P:=by
 have h12:=hO.k12
 exact ⟨fun W=>gFormed_yes a (by omega) (by omega) W,fun W=>gFormed_yes m hm1 (by omega) W,spFree_is i j false (by rw[freeP,show (i==0)=false by simpa using h0];rfl),grForm_is i j hi hj true hf,
  fun W hb=>spUsed_yes (h.low hb) hH hO (by omega) hak,fun W=>gOpen_yes m hm1 (by omega) W,fun W hb=>spFind_yes (h.low hb) hH hO hm1 (by omega) g⟩
theorem spTake_full (h:SInv w P d p X) (hH:Has X.cur O k) (hO:OOk O k) {a m:Nat} (hm1:1<=m) (hma:m<=a) (hak:a<=k) (g:Int) {i j:Int} (hi:0<=i/\i<=65535) (hj:0<=j/\j<=65535) (hf:frmO i j=true) (h0:i≠0) (h6:i≠65535) (hc:62*(m:Int)-42<=cntU O (64*a)):
 Calls Tryz.prog 118 #[p,.int .i64 (64*(a:Int)),.int .i64 (64*(m:Int)),.int .i64 g,.agg #[.int .u16 i,.int .u16 j]] w fun e w'=>e=.returned (.tuple #[.int .i64 0,.int .i64 13])/\Below w.heap.size w w':=by
 have h12:=hO.k12
 have K:=Lib.hid (takeK h hH hO hm1 hma hak g hi hj hf h0)
 have HR:=Lib.hid (fun (W:World) (hb:Below (w.alloc (.cells #[.int .u16 i,.int .u16 j] 36)).heap.size (w.alloc (.cells #[.int .u16 i,.int .u16 j] 36)) W)=>show W.cell? ⟨w.heap.size,0,none⟩=some (.int .u16 i)/\W.cell? ⟨w.heap.size,1,none⟩=some (.int .u16 j) from ⟨cell_of_row _ _ _ _ _ _ (below_hold (heap_alloc_new w _) hb),cell_of_row _ _ _ _ _ _ (below_hold (heap_alloc_new w _) hb)⟩)
 have HB1:=Lib.hid (below_box w (.cells #[.int .u16 i,.int .u16 j] 36))
 have hib:(i==65535)=false:=by simpa using h6
 have hma':¬ (64*(a:Int)<64*(m:Int)):=by omega
 obtain ⟨U,hU⟩:∃ U,U=cntU O (64*a):=⟨_,rfl⟩
 have KU:Hid (∀ W:World,Below w.heap.size w W->Calls Tryz.prog 8 #[p,.int .i64 (64*(a:Int))] W fun e w'=>e=.returned (.tuple #[.int .i64 U,.int .i64 0])/\Below W.heap.size W w'):=Lib.hid (by rw[hU];exact K.out.us)
 rw[<- hU] at hc
 clear h hH hO hi hj hf h0 h6 hU hm1 hak h12
 go_enter Tryz.func118,Tryz.ntmps118
 go_wp2_with (first
  |(go_at_call 59;(with_reducible refine (K.out.f1 _).mono ?_);rintro e w' ⟨rfl,rfl⟩)
  |(go_at_call 59;(with_reducible refine (K.out.f2 _).mono ?_);rintro e w' ⟨rfl,rfl⟩)
  |(go_at_call 63;refine (K.out.fr _).mono ?_;rintro e w2 ⟨rfl,hb2⟩;obtain ⟨c0,c1⟩:=HR.out _ hb2;have hb02:=HB1.out.trans (hb2.mono HB1.out.size))
  |(go_at_call 149;refine (K.out.fo _).mono ?_;rintro e w3 ⟨rfl,hb3⟩;obtain ⟨c30,c31⟩:=HR.out _ (hb2.trans (hb3.mono hb2.size));have hb03:=hb02.trans (hb3.mono hb02.size))
  |(go_at_call 8;refine (KU.out _ hb03).mono ?_;rintro e w4 ⟨rfl,hb4⟩;have hb04:=hb03.trans (hb4.mono hb03.size))
  |(go_at_call 25;refine (K.out.op _).mono ?_;rintro e w' ⟨rfl,rfl⟩))
 go_ret2
 exact ⟨rfl,hb04⟩
end
section
variable {w:World}{P:Nat->Prop}{d p:Value}{X:XSt}{O D:List (Int × Int)}{k:Nat}
theorem spTake_yes (h:SInv w P d p X) (hw:X.wi=true) (hp0:X.put.length<=35) (hH:Has X.call O k) (hO:OOk O k) {a m:Nat} (hm1:1<=m) (hma:m<=a) (hak:a<=k) (g:Int) {i j:Int} (hi:0<=i/\i<=65535) (hj:0<=j/\j<=65535) (hf:frmO i j=true) (h0:i≠0) (h6:i≠65535) {f:Nat}
 (hc:(cntU O (64*a):Int)<62*(m:Int)-42) (hfm:f<64*m) (hfs:findS O (64*m) (goalS (64*m) g)=f) (hfx:fixB (f:Int)=false):
 Calls Tryz.prog 118 #[p,.int .i64 (64*(a:Int)),.int .i64 (64*(m:Int)),.int .i64 g,.agg #[.int .u16 i,.int .u16 j]] w fun e w'=>e=.returned (.tuple #[.int .i64 f,.int .i64 0])/\∃ P',SInv w' P' d p (putX X (f / 64) (grO (O.set f (i,j)) (f / 64)))/\Chg P P' w w':=by
 have h12:=hO.k12
 have hcur:X.cur=X.call:=by unfold XSt.cur;rw[if_pos hw]
 have hH':Has X.cur O k:=by rw[hcur];exact hH
 have K:=Lib.hid (takeK h hH' hO hm1 hma hak g hi hj hf h0)
 have HR:=Lib.hid (fun (W:World) (hb:Below (w.alloc (.cells #[.int .u16 i,.int .u16 j] 36)).heap.size (w.alloc (.cells #[.int .u16 i,.int .u16 j] 36)) W)=>show W.cell? ⟨w.heap.size,0,none⟩=some (.int .u16 i)/\W.cell? ⟨w.heap.size,1,none⟩=some (.int .u16 j) from ⟨cell_of_row _ _ _ _ _ _ (below_hold (heap_alloc_new w _) hb),cell_of_row _ _ _ _ _ _ (below_hold (heap_alloc_new w _) hb)⟩)
 have HB1:=Lib.hid (below_box w (.cells #[.int .u16 i,.int .u16 j] 36))
 have hib:(i==65535)=false:=by simpa using h6
 have hma':¬ (64*(a:Int)<64*(m:Int)):=by omega
 obtain ⟨U,hU⟩:∃ U,U=cntU O (64*a):=⟨_,rfl⟩
 have KU:Hid (∀ W:World,Below w.heap.size w W->Calls Tryz.prog 8 #[p,.int .i64 (64*(a:Int))] W fun e w'=>e=.returned (.tuple #[.int .i64 U,.int .i64 0])/\Below W.heap.size W w'):=Lib.hid (by rw[hU];exact K.out.us)
 have KFi:Hid (∀ W:World,Below w.heap.size w W->Calls Tryz.prog 155 #[p,.int .i64 (64*(m:Int)),.int .i64 g] W fun e w'=>e=.returned (.tuple #[.int .i64 f,.int .i64 0])/\Below W.heap.size W w'):=Lib.hid (by rw[<- hfs];exact K.out.fi)
 have KS:Hid (∀ W:World,Below w.heap.size w W->Calls Tryz.prog 156 #[p,.int .i64 f,.agg #[.int .u16 i,.int .u16 j]] W fun e w'=>e=.returned (.int .i64 0)/\∃ P',SInv w' P' d p (putX X (f / 64) (grO (O.set f (i,j)) (f / 64)))/\Chg P P' W w'):=Lib.hid fun W hb=>spSet_yes (h.low hb) hw hp0 hH hO (by omega) hfx hi hj hf h6
 rw[<- hU] at hc
 have hc':¬ (62*(m:Int)-42<=(U:Int)):=by omega
 clear h hw hp0 hH hH' hcur hO hi hj hf h0 h6 hU hm1 hak h12 hfm hfs hfx
 go_enter Tryz.func118,Tryz.ntmps118
 go_wp2_with (first
  |(go_at_call 59;(with_reducible refine (K.out.f1 _).mono ?_);rintro e w' ⟨rfl,rfl⟩)
  |(go_at_call 59;(with_reducible refine (K.out.f2 _).mono ?_);rintro e w' ⟨rfl,rfl⟩)
  |(go_at_call 63;refine (K.out.fr _).mono ?_;rintro e w2 ⟨rfl,hb2⟩;obtain ⟨c0,c1⟩:=HR.out _ hb2;have hb02:=HB1.out.trans (hb2.mono HB1.out.size))
  |(go_at_call 149;refine (K.out.fo _).mono ?_;rintro e w3 ⟨rfl,hb3⟩;have hb13:=hb2.trans (hb3.mono hb2.size);obtain ⟨c30,c31⟩:=HR.out _ hb13;have hb03:=hb02.trans (hb3.mono hb02.size))
  |(go_at_call 8;refine (KU.out _ hb03).mono ?_;rintro e w4 ⟨rfl,hb4⟩;have hb14:=hb13.trans (hb4.mono hb13.size);have hb04:=hb03.trans (hb4.mono hb03.size))
  |(go_at_call 25;refine (K.out.op _).mono ?_;rintro e w' ⟨rfl,rfl⟩)
  |(go_at_call 155;refine (KFi.out _ hb04).mono ?_;rintro e w5 ⟨rfl,hb5⟩;have hb15:=hb14.trans (hb5.mono hb14.size);obtain ⟨c50,c51⟩:=HR.out _ hb15;have hb05:=hb04.trans (hb5.mono hb04.size))
  |(go_at_call 156;refine (KS.out _ hb05).mono ?_;rintro e w6 ⟨rfl,P6,hi6,hc6⟩))
 go_ret2
 exact ⟨rfl,P6,hi6,(Chg.of_below hb05).trans hc6⟩
end
end Go.Proofs.YtaakepjgpnaecaaGreat
namespace Go.Proofs.YtaakepjgpnaecaaGreat
set_option maxRecDepth 100000
open Go.RowKit
def dmg (G:List (List Int)) (n:Nat):Nat->List (List Int)
 |0=>List.replicate n zb
 |k+1=>if (G.getD k []).length=256 then (dmg G n k).set k (G.getD k []) else dmg G n k
theorem dmg_length (G:List (List Int)) (n:Nat):∀ k,(dmg G n k).length=n
 |0=>List.length_replicate
 |k+1=>by unfold dmg;split;· rw[List.length_set];exact dmg_length G n k
          · exact dmg_length G n k
theorem dmg_get (G:List (List Int)) (n:Nat):∀ k i,i<n->k<=n->(dmg G n k).getD i []=if i<k/\(G.getD i []).length=256 then G.getD i [] else zb
 |0,i,hi,_=>by rw[if_neg (by omega)];unfold dmg;rw[List.getD_eq_getElem?_getD,List.getElem?_replicate,if_pos hi];rfl
 |k+1,i,hi,hk=>by
  have ih:=dmg_get G n k i hi (by omega)
  have hl:=dmg_length G n k
  unfold dmg
  by_cases h:(G.getD k []).length=256
  · rw[if_pos h,BM.getD_set _ _ _ _ _ (by omega),ih]
    by_cases e:i=k
    · rw[if_pos e,e,if_pos ⟨by omega,h⟩]
    · rw[if_neg e]
      by_cases hc:i<k/\(G.getD i []).length=256
      · rw[if_pos hc,if_pos ⟨by omega,hc.2⟩]
      · rw[if_neg hc,if_neg (fun h2=>hc ⟨by omega,h2.2⟩)]
  · rw[if_neg h,ih]
    by_cases hc:i<k/\(G.getD i []).length=256
    · rw[if_pos hc,if_pos ⟨by omega,hc.2⟩]
    · rw[if_neg hc,if_neg (fun h2=>?_)]
      by_cases e:i=k
      · rw[e] at h2;exact h h2.2
      · exact hc ⟨by omega,h2.2⟩
theorem descS_len (g:Int) (L:List Bool) (h:L.length=64):(descS g L).length=256:=by rw[descS];exact sealS_length _ (by rw[descC_length _ _ h];decide)
theorem dmg_has {G:List (List Int)}{O:List (Int × Int)}{kk:Nat} (h:P2 G O kk kk) (hO:O.length=64*kk):Has (dmg G (64*kk) (64*kk)) O kk:=by
 refine ⟨dmg_length _ _ _,fun g hg=>?_,fun g hg=>?_⟩
 · have hin:=dscN_in hg
   have h1:=(h.ds g hg).1
   rw[dmg_get _ _ _ _ (by omega) (Nat.le_refl _),if_pos ⟨by omega,by rw[h1];exact descS_len _ _ (usedK_length _ _)⟩,h1]
 · have hin:=dscN_in hg
   have h1:=(h.ds g hg).2
   rw[dmg_get _ _ _ _ (by omega) (Nat.le_refl _),if_pos ⟨by omega,by rw[h1];exact pageS_length (grO_length hO hg)⟩,h1]
theorem dmg_tab {G:List (List Int)}{kk:Nat} (h:New3 G kk) (h1:1<=kk) (h2:kk<=12):Tab (dmg G (64*kk) (64*kk)) (newS kk) newN:=by
 have e:∀ i,i<64->(G.getD i []).length=256->(dmg G (64*kk) (64*kk)).getD i []=G.getD i []:=fun i hi hl=>by
  rw[dmg_get _ _ _ _ (by omega) (Nat.le_refl _),if_pos ⟨by omega,hl⟩]
 refine New3.tab ⟨fun t ht=>?_,?_,?_⟩ h1 h2 (dmg_length _ _ _)
 · rw[e _ (by omega) (by rw[h.t t ht];exact encT_len _)];exact h.t t ht
 · rw[e _ (by decide) (by rw[h.g0];exact encS_len)];exact h.g0
 · rw[e _ (by decide) (by rw[h.g63];exact encS_len)];exact h.g63
theorem dmg_Jst {G:List (List Int)}{O:List (Int × Int)}{kk:Nat} (h:P2 G O kk kk) (h1:1<=kk):Jst (64*kk) (dmg G (64*kk) (64*kk)) (dmg G (64*kk) (64*kk)):=by
 refine ⟨dmg_length _ _ _,dmg_length _ _ _,.inr ⟨rfl,?_,fun _ _ _=>rfl⟩⟩
 rw[dmg_get _ _ _ _ (by omega) (Nat.le_refl _),h.jr 42 (by decide) (by decide)]
 split <;> rfl
theorem BBa.cellAt {w:World}{P:Nat->Prop}{g n cap k:Nat}{L:List (List Int)} (h:BBa w P (.slice (some ⟨g,0,none⟩) n cap) L) (hk:k<L.length):∃ u,w.cell? ⟨g,k,none⟩=some u/\BSl w u (L.getD k []):=by
 rcases h with ⟨e,_⟩| ⟨a,cap',e,_,hc⟩
 · cases e
 · injection e with e1 _ _
   injection e1 with e1
   subst e1
   obtain ⟨_,_,u,h3,h4,_⟩:=hc k hk
   exact ⟨u,by simpa using h3,h4⟩
theorem laid12_tab {kk:Nat} (h1:1<=kk) (h2:kk<=12) (w:World):Calls Tryz.prog 22 #[.int .i64 (64*(kk:Int)),.int .i64 (64*(kk:Int))] w fun e w'=>∃ b P d G ds,e=.returned (.pointer (some ⟨b,0,none⟩))/\SInv w' P d (.pointer (some ⟨b,0,none⟩)) ⟨G,G,[],[],false,0,ds⟩/\ds.fu=false/\Has G (newO kk) kk/\Tab G (newS kk) newN/\(∀ x,P x->w.heap.size<=x)/\Below w.heap.size w w':=by
 have KN:=Lib.hid (fun (W:World)=>kNew W (64*kk) (by omega))
 rw[show ((64*kk:Nat):Int)=64*(kk:Int) by omega] at KN
 have KFr:=Lib.hid (fun (W:World)=>rFresh_is h1 h2 W)
 go_enter Tryz.func22,Tryz.ntmps22
 go_wp2_with (first
  |(go_at_call 53;refine (KN.out _).mono ?_;rintro e w1 ⟨d,P,rfl,hd1,hP1,hb1⟩)
  |(go_at_call 54;refine (KFr.out _).mono ?_;rintro e w2 ⟨v,G,rfl,hG,hP2,hN3,hb2⟩;have hd2:=hd1.below hb2;have hbba:=hG.apart hd2;obtain ⟨gv,cv,ev,_,_⟩:=BB2.shape0 hG.bb2 (by rw[hP2.len];omega);rw[hP2.len] at ev;subst ev))
 have HD0:Hid (Dk w2 P d ⟨dmg G (64*kk) 0,[],false,0,false⟩):=Lib.hid hd2
 have HC0:Hid (Chg P P w2 w2):=Lib.hid (Chg.refl _ _)
 have HBA:=Lib.hid hbba
 have HP2:=Lib.hid hP2
 have HN3:=Lib.hid hN3
 have HPW:=Lib.hid hP1
 have HB2:Hid (Below w.heap.size w w2):=Lib.hid (hb1.trans (hb2.mono hb1.size))
 clear hd1 hP1 hb1 hG hP2 hN3 hb2 hd2 hbba KN KFr
 go_loopw [17] (fun i WI=>∃ k:Nat,k<=64*kk/\i=.int .i64 k/\Hid (Dk WI P d ⟨dmg G (64*kk) k,[],false,0,false⟩)/\Hid (Chg P P w2 WI)) (fun i _=>64*kk-(intOf i).toNat)
 case atStart=>exact ⟨0,by omega,rfl,HD0,HC0⟩
 case round=>
  obtain ⟨k,hk,rfl,HD,HC⟩:=hrel
  clear HD0 HC0
  by_cases hlt:k<64*kk
  · have ekt:(k:Int)<64*(kk:Int):=by omega
    obtain ⟨u,hu,hs⟩:=(HBA.out.chg HC.out).cellAt (k:=k) (by rw[HP2.out.len];exact hlt)
    have KD:=Lib.hid (kDamage HD.out rfl (n:=k) (by show k<(dmg G (64*kk) k).length;rw[dmg_length];exact hlt) hs)
    clear hs
    go_wp2_with (go_at_call 55;refine KD.out.mono ?_;rintro e w3 ⟨⟨x,rfl⟩,hd3,hc3⟩)
    have HD3:Hid (Dk w3 P d ⟨dmg G (64*kk) (k+1),[],false,0,false⟩):=Lib.hid hd3
    have HC3:=Lib.hid (HC.out.trans hc3)
    clear hd3 hc3
    go_roundw
    case rel=>exact ⟨k+1,by omega,by go_num,HD3,HC3⟩
    case measure=>simp[intOf];omega
  · obtain rfl:k=64*kk:=by omega
    have KO:=Lib.hid (sOpen_of HD.out (n:=64*kk) (G:=dmg G (64*kk) (64*kk)) (by omega) (by omega) rfl rfl (dmg_Jst HP2.out h1))
    have hdl:=HD.out.lt
    go_wp2_with (go_at_call 56;refine KO.out.mono ?_;rintro e w4 (⟨p,ds',P4,rfl,hfu,hI,hc4⟩| ⟨hf,_⟩);rotate_left;exact absurd hf (by decide);obtain ⟨bb,rfl⟩:=landed.ptr hI)
    go_ret
    refine ⟨bb,P4,d,_,ds',rfl,hI,hfu,dmg_has HP2.out (tabN_length _ _),dmg_tab HN3.out h1 h2,fun x hx=>?_,?_⟩
    · rcases chg_new hc4 hx with h|h
      · exact HPW.out x h
      · have h3:=HB2.out.size
        have h4:=HC.out.size
        omega
    · have hw2:=HB2.out.size
      have b1:Below w.heap.size w2 wr:=HC.out.below fun x hx=>⟨by omega,fun hp=>by have:=HPW.out x hp;omega⟩
      have hw3:=HC.out.size
      have b2:Below w.heap.size wr w4:=hc4.below fun x hx=>⟨by omega,fun hp=>by have:=HPW.out x hp;omega⟩
      exact (HB2.out.trans b1).trans b2
def PM (P M:Nat->Prop) (k:Nat):Prop:=P k\/M k
theorem Chg.pm {w w':World}{P P':Nat->Prop} (h:Chg P P' w w') (M:Nat->Prop):Chg (PM P M) (PM P' M) w w':=⟨h.os,h.tape,h.output,h.size,fun k hk hn=>⟨(h.keep k hk fun e=>hn (.inl e)).1,fun e=>e.elim (fun e=>(h.keep k hk fun e=>hn (.inl e)).2 e) fun e=>hn (.inr e)⟩⟩
theorem Chg.mp {w w':World}{M:Nat->Prop} (h:Chg M M w w') (P:Nat->Prop):Chg (PM P M) (PM P M) w w':=⟨h.os,h.tape,h.output,h.size,fun k hk hn=>⟨(h.keep k hk fun e=>hn (.inr e)).1,hn⟩⟩
def callX (X:XSt):XSt:={ X with call:=X.is,put:=[],wi:=true }
section
variable {w0 w:World}{P M:Nat->Prop}{d p r:Value}{X:XSt}{n:Int}{O O2:List (Int × Int)}{kk:Nat}
theorem chg_base {P':Nat->Prop}{w':World} (hb:Below w0.heap.size w0 w) (hP:∀ x,P x->w0.heap.size<=x) (hc:Chg P P' w w'):Below w0.heap.size w0 w'/\∀ x,P' x->w0.heap.size<=x:=by
 have hs:=hb.size
 refine ⟨hb.trans (hc.below fun x hx=>⟨by omega,fun hp=>by have:=hP x hp;omega⟩),fun x hx=>?_⟩
 rcases chg_new hc hx with h|h
 · exact hP x h
 · omega
end
theorem pPut_two (x:Int) (h0:0<=x) (h1:x<=65535) (w:World):Calls Tryz.prog 121 #[.slice none 0 0,.int .u64 x,.int .i64 2] w (NewB w (lowB x 2)):=
 pPut_at (bsl_nil w) (by simp) x 2 2 (by omega) (by omega) rfl h0 (by omega)
theorem iEncM_not {w:World}{v:Value}{l:List Int} (hs:ISl w v l) (hl:l.length=128) (h:locS l=false):Calls Tryz.prog 76 #[v] w fun e w'=>e=.returned (.tuple #[.slice none 0 0,.int .i64 1])/\w=w':=by
 have HA:=Lib.hid (iLocated_is hs (by omega) false h)
 obtain ⟨ao,cap,rfl⟩:=hs.shape
 rw[hl] at HA |-
 clear hs h hl
 go_enter Tryz.func76,Tryz.ntmps76
 go_wp2_with (go_at_call 120;refine HA.out.mono ?_;rintro e w' ⟨rfl,rfl⟩)
 go_ret2
 exact ⟨rfl,rfl⟩
theorem iEncM_yes {w:World}{v:Value}{l:List Int} (hs:ISl w v l) (hl:l.length=128) (h:locS l=true):Calls Tryz.prog 76 #[v] w fun e w'=>∃ u,e=.returned (.tuple #[u,.int .i64 0])/\OB w' w.heap.size u (mapS l)/\Below w.heap.size w w':=by
 have HA:=Lib.hid (iLocated_is hs (by omega) true h)
 obtain ⟨b,off,cap,rfl,hb,hc⟩:=hs.at (by omega)
 have HLO:=Lib.hid ((locS_iff l).1 h)
 obtain ⟨M,hMM⟩:∃ M:Nat,M=256:=⟨_,rfl⟩
 have HMI:Hid ((256:Int)=(M:Int)):=Lib.hid (by omega)
 have hM1:M<=1000:=by omega
 rw[hl] at HA hc HLO |-
 have HC:=Lib.hid hc
 clear hs h hc hl hMM
 go_enter Tryz.func76,Tryz.ntmps76
 go_wp2_with (first
  |(go_at_call 120;refine HA.out.mono ?_;rintro e w' ⟨rfl,rfl⟩)
  |(at_make;refine wpList_make_u8c _ rfl _ _ rfl 0 256 0 M rfl rfl rfl HMI.out (Nat.zero_le _) (by omega) ?_))
 have HOB3:=Lib.hid (ob_made w M hM1)
 have hbw3:Below w.heap.size w (w.alloc (.cells (Array.replicate M (.int .u8 0)) 5)):=below_box _ _
 generalize w.alloc (.cells (Array.replicate M (.int .u8 0)) 5)=w3 at HOB3 hbw3 |-
 go_loopw [4,18] (fun u i wr=>∃ k:Nat,k<=128/\i=.int .i64 k/\Hid (OB wr w.heap.size u (mapK l k))/\Below w.heap.size w wr) (fun _ i _=>128-(intOf i).toNat)
 case atStart=>exact ⟨0,by omega,rfl,HOB3,hbw3⟩
 case round=>
  obtain ⟨k,hk,rfl,HOB,hbr⟩:=hrel
  clear HOB3 hbw3
  by_cases hlt:k<128
  · have hck:=(hbr.cell (p:=⟨b,off+k,none⟩) hb).trans (HC.out k hlt)
    have hbd:=inB_iff.1 (HLO.out k hlt)
    have hpk:mapK l (k+1)=mapK l k ++ lowB (l.getD k 0) 2:=rfl
    obtain ⟨x,hx⟩:∃ x,x=l.getD k 0:=⟨_,rfl⟩
    rw[<- hx] at hck hbd hpk
    have ek:(k:Int)<128:=by omega
    have HPK:=Lib.hid hpk
    have HL:=Lib.hid (mapK_length l k)
    obtain ⟨x0,x1⟩:=hbd
    clear hx hpk
    go_wp2_with (first
     |(go_at_call 121;(with_reducible refine (pPut_two x x0 (by omega) _).mono ?_);rintro e w4 ⟨v4,rfl,hob4,hb4⟩
       have HB4:=Lib.hid (hbr.trans (hb4.mono hbr.size)))
     |(at_builtin
       refine wpList_append_bytes w4 rfl _ _ rfl w.heap.size _ (mapK l k) rfl (HOB.out.below hb4) w4 v4 (lowB x 2) rfl hob4.bsl (fun _ _=>rfl) (by rw[HL.out,lowB_length];omega) HB4.out.size ?_
       intro v5 w5 hob5 hb5 _))
    go_roundw
    case rel=>exact ⟨k+1,by omega,by go_num,by show OB _ _ _ (mapK l (k+1));rw[HPK.out];exact hob5,HB4.out.trans hb5⟩
    case measure=>simp[intOf];omega
  · obtain rfl:k=128:=by omega
    go_wp2
    go_ret2
    exact ⟨_,rfl,HOB.out,hbr⟩
theorem iDecM_row {w:World}{v:Value}{l:List Int} (hs:BSl w v l) (hl:l.length=256):Calls Tryz.prog 117 #[v] w fun e w'=>(hasM l/\e=.returned (.tuple #[.slice (some ⟨w.heap.size,0,none⟩) 128 128,.int .i64 0])/\w'.heap[w.heap.size]? =some (iO (rdK l 128) 3)/\Below w.heap.size w w')\/
 (¬ hasM l/\e=.returned (.tuple #[.slice none 0 0,.int .i64 18])/\Below w.heap.size w w'):=by
 obtain ⟨ao,cap,rfl,_⟩:=hs.shape
 obtain ⟨M,hMM⟩:∃ M:Nat,M=128:=⟨_,rfl⟩
 have HMI:Hid ((128:Int)=(M:Int)):=Lib.hid (by omega)
 have hM1:M<=1000:=by omega
 have HM:=Lib.hid hMM
 have HS:=Lib.hid hs
 have HL:=Lib.hid hl
 rw[hl] at HS |-
 clear hMM hs hl
 go_enter Tryz.func117,Tryz.ntmps117
 go_wp2_with (at_make;refine wpList_make_int _ rfl _ _ rfl _ M rfl rfl HMI.out (by omega) ?_)
 have hz:(w.alloc (iO (List.replicate M 0) 3)).heap[w.heap.size]? =some (iO (rdTill l M 0) 3):=by
  rw[rdTill_zero];exact heap_alloc_new w _
 have hb2:Below w.heap.size w (w.alloc (iO (List.replicate M 0) 3)):=below_box _ _
 have hsz:w.heap.size<(w.alloc (iO (List.replicate M 0) 3)).heap.size:=by simp
 generalize w.alloc (iO (List.replicate M 0) 3)=w2 at hz hb2 hsz |-
 have HZ:=Lib.hid hz
 clear hz
 go_loopw [14] (fun i wr=>∃ k:Nat,k<=M/\i=.int .i64 k/\Hid (wr.heap[w.heap.size]? =some (iO (rdTill l M k) 3))/\Below w.heap.size w wr) (fun i _=>M-(intOf i).toNat)
 case atStart=>exact ⟨0,by omega,rfl,HZ,hb2⟩
 case round=>
  obtain ⟨k,hk,rfl,HR,hbr⟩:=hrel
  clear HZ hb2 hsz
  by_cases hlt:k<M
  · have ekM:(k:Int)<(M:Int):=by omega
    have hk128:k<128:=by have:=HM.out;omega
    have hsr:=HS.out.below hbr
    have T1:=pGetW hsr (by rw[HL.out];decide) (2*k) 2 ((k:Int)*2) 2 (by push_cast;omega) rfl (by omega) (by omega) (by rw[HL.out];omega) _ rfl
    have b1:=getV2_le (byt_mem hsr.1) (2*k)
    have hps:=rdTill_set l M k
    obtain ⟨x,hx⟩:∃ x,x=getV l (2*k) 2:=⟨_,rfl⟩
    rw[<- hx] at T1 b1 hps
    have H1:=Lib.hid T1
    have ck:=io_cell HR.out k (by rw[rdTill_length];exact hlt)
    have fk:=io_free HR.out k
    have hw6:=Wrote.setCell wr w.heap.size k (.int .i64 x)
    have hr6:=io_set HR.out k x
    rw[hps] at hr6
    have HR6:=Lib.hid hr6
    have HB6:=Lib.hid (hbr.trans (hw6.below (Nat.le_refl _)))
    obtain ⟨b10,b11⟩:=b1
    clear T1 hx hsr hps hr6 hw6
    go_wp2_with (go_at_call 110;(with_reducible refine H1.out.mono ?_);rintro e w3 ⟨rfl,rfl⟩)
    go_roundw
    case rel=>exact ⟨k+1,by omega,by go_num,HR6.out,HB6.out⟩
    case measure=>simp[intOf];omega
  · have hr:=HR.out
    have hkM:k=M:=by omega
    rw[hkM,rdTill_full] at hr
    have hob:=IR.of_row (B:=w.heap.size) (Nat.le_refl _) hr (by rw[rdK_length];simp only[maxLen];omega)
    rw[rdK_length] at hob
    have hob2:ISl wr (.slice (some ⟨w.heap.size,0,none⟩) M M) (rdK l 128):=by
     have:=hob.sl;rw[show rdK l 128=rdK l M by rw[HM.out]];exact this
    have HOB:Hid (wr.heap[w.heap.size]? =some (iO (rdK l 128) 3)):=Lib.hid (by rw[show rdK l 128=rdK l M by rw[HM.out]];exact hr)
    have HBR:=Lib.hid hbr
    clear hr hob
    cases hf:locS (rdK l 128)
    all_goals
     have HF:=Lib.hid hf
     have HA:=Lib.hid (iLocated_is hob2 (by rw[rdK_length];decide) _ hf)
     clear hf hob2
    · go_wp2_with (go_at_call 120;refine HA.out.mono ?_;rintro e w3 ⟨rfl,rfl⟩)
      go_ret2
      exact .inr ⟨(fun h=>by have h2:=h.2;rw[HF.out] at h2;cases h2),rfl,hbr⟩
    · go_wp2_with (go_at_call 120;refine HA.out.mono ?_;rintro e w3 ⟨rfl,rfl⟩)
      go_ret2
      exact .inl ⟨⟨HL.out,HF.out⟩,by rw[HM.out];rfl,HOB.out,hbr⟩
end Go.Proofs.YtaakepjgpnaecaaGreat
namespace Go.Proofs.YtaakepjgpnaecaaGreat
set_option maxRecDepth 100000
open Go.RowKit BM
def chC (bf n:Nat) (x:List Int) (fv:Value):List Value:=.pointer (some ⟨bf,0,none⟩) :: .int .i64 (n:Nat) :: (iC x ++ [fv])
def ChAt (w:World) (bc bf n:Nat) (x:List Int) (fv:Value):Prop:=x.length=14/\fv.oneCell'=true/\w.heap[bc]? =some (.cells (chC bf n x fv).toArray 94 (0,0))
theorem chC_num {bf n:Nat}{x:List Int}{fv:Value} (hx:x.length=14) {k:Nat} (hk:k<14):(chC bf n x fv)[2+k]? =some (.int .i64 (num x k)):=by
 unfold chC num
 rw[show 2+k=k+1+1 by omega,List.getElem?_cons_succ,List.getElem?_cons_succ,List.getElem?_append_left (by rw[iC_length];omega)]
 simp[iC,List.getD_eq_getElem?_getD,hx,hk]
theorem chC_far {bf n:Nat}{x:List Int}{fv:Value} (hx:x.length=14):(chC bf n x fv)[16]? =some fv:=by
 unfold chC
 rw[show 16=14+1+1 by rfl,List.getElem?_cons_succ,List.getElem?_cons_succ,List.getElem?_append_right (by rw[iC_length];omega),iC_length,hx]
 rfl
theorem chC_set {bf n:Nat}{x:List Int}{fv:Value} (hx:x.length=14) {k:Nat} (hk:k<14) (v:Int):(chC bf n x fv).set (2+k) (.int .i64 v)=chC bf n (x.set k v) fv:=by
 unfold chC
 rw[show 2+k=k+1+1 by omega,List.set_cons_succ,List.set_cons_succ,List.set_append_left _ _ (by rw[iC_length];omega)]
 simp[iC,List.map_set]
theorem chC_setF {bf n:Nat}{x:List Int}{fv:Value} (hx:x.length=14) (u:Value):(chC bf n x fv).set 16 u=chC bf n x u:=by
 unfold chC
 rw[show 16=14+1+1 by rfl,List.set_cons_succ,List.set_cons_succ,List.set_append_right _ _ (by rw[iC_length];omega),iC_length,hx]
 rfl
section
variable {w:World}{bc bf n:Nat}{x:List Int}{fv:Value}
theorem ChAt.lt (h:ChAt w bc bf n x fv):bc<w.heap.size:=(Array.getElem?_eq_some_iff.1 h.2.2).1
theorem ChAt.low {w':World} (h:ChAt w bc bf n x fv) (hb:Below w.heap.size w w'):ChAt w' bc bf n x fv:=⟨h.1,h.2.1,below_hold h.2.2 hb⟩
theorem ChAt.chg {w':World}{P P':Nat->Prop} (h:ChAt w bc bf n x fv) (hc:Chg P P' w w') (hn:¬ P bc):ChAt w' bc bf n x fv/\¬ P' bc:=by
 have:=hc.keep bc h.lt hn
 exact ⟨⟨h.1,h.2.1,this.1.trans h.2.2⟩,this.2⟩
theorem ChAt.cell (h:ChAt w bc bf n x fv) {j:Nat}{v:Value} (hv:(chC bf n x fv)[j]? =some v):w.cell? ⟨bc,j,none⟩=some v:=by
 rw[cell_of_row _ _ _ _ _ _ h.2.2];simpa using hv
theorem ChAt.c0 (h:ChAt w bc bf n x fv):w.cell? ⟨bc,0,none⟩=some (.pointer (some ⟨bf,0,none⟩)):=h.cell rfl
theorem ChAt.c1 (h:ChAt w bc bf n x fv):w.cell? ⟨bc,1,none⟩=some (.int .i64 (n:Nat)):=h.cell rfl
theorem ChAt.num (h:ChAt w bc bf n x fv) {k:Nat} (hk:k<14):w.cell? ⟨bc,2+k,none⟩=some (.int .i64 (num x k)):=h.cell (chC_num h.1 hk)
theorem ChAt.cm (h:ChAt w bc bf n x fv):w.cell? ⟨bc,15,none⟩=some (.int .i64 (Go.Proofs.YtaakepjgpnaecaaGreat.num x 13)):=h.num (k:=13) (by decide)
theorem ChAt.cf (h:ChAt w bc bf n x fv):w.cell? ⟨bc,16,none⟩=some fv:=h.cell (chC_far h.1)
theorem ChAt.free (h:ChAt w bc bf n x fv) (j:Nat):w.frozen? ⟨bc,j,none⟩=false:=by simp[World.frozen?,h.2.2]
theorem ChAt.rng (h:ChAt w bc bf n x fv):w.rangeAt bc 2 (iC x):=range_row h.2.2 (by
 unfold chC
 rw[show (2:Nat)=1+1 by rfl,List.drop_succ_cons,List.drop_succ_cons,List.drop_zero,List.take_left' rfl])
theorem ChAt.setN (h:ChAt w bc bf n x fv) {k:Nat} (hk:k<14) (v:Int):ChAt (w.setCell ⟨bc,2+k,none⟩ (.int .i64 v)) bc bf n (x.set k v) fv:=
 ⟨by rw[List.length_set];exact h.1,h.2.1,by rw[heap_setCell_same w bc (2+k) _ _ _ h.2.2];simp only[List.setIfInBounds_toArray];rw[chC_set h.1 hk]⟩
theorem ChAt.setF (h:ChAt w bc bf n x fv) (u:Value) (hu:u.oneCell'=true):ChAt (w.setCell ⟨bc,16,none⟩ u) bc bf n x u:=
 ⟨h.1,hu,by rw[heap_setCell_same w bc 16 _ _ _ h.2.2];simp only[List.setIfInBounds_toArray];rw[chC_setF h.1]⟩
end
def FarA (w:World) (B bc:Nat) (P:Nat->Prop) (fv:Value) (F:List Int) (bg:Nat):Prop:=F.length=128/\B<=bg/\bg≠bc/\¬ P bg/\fv=.slice (some ⟨bg,0,none⟩) 128 128/\w.heap[bg]? =some (iO F 3)
theorem FarA.isl {w:World}{B bc bg:Nat}{P:Nat->Prop}{fv:Value}{F:List Int} (h:FarA w B bc P fv F bg):ISl w fv F:=by
 have:=(IR.of_row (B:=bg) (Nat.le_refl _) h.2.2.2.2.2 (by rw[h.1];simp only[maxLen];omega)).sl
 rw[h.1] at this
 rw[h.2.2.2.2.1];exact this
theorem l14_ex {x:List Int} (h:x.length=14):∃ kd ln sz d0 d1 d2 d3 d4 d5 d6 d7 d8 d9 mp:Int,x=[kd,ln,sz,d0,d1,d2,d3,d4,d5,d6,d7,d8,d9,mp]:=by
 match x,h with
 |[kd,ln,sz,d0,d1,d2,d3,d4,d5,d6,d7,d8,d9,mp],_=>exact ⟨kd,ln,sz,d0,d1,d2,d3,d4,d5,d6,d7,d8,d9,mp,rfl⟩
theorem fmOpen_bad {n:Int} (hn:n<1\/47<n) (f:Value) (W:World):Calls Tryz.prog 73 #[f,.int .i64 n] W fun e w'=>e=.returned (.tuple #[.pointer none,.int .i64 1])/\Below W.heap.size W w':=by
 have KG:Hid (∀ V:World,Calls Tryz.prog 116 #[f,.int .i64 n] V fun e w'=>e=.returned (.tuple #[.agg #[.int .i64 0,.int .i64 0,.int .i64 0,.int .i64 0,.int .i64 0,.int .i64 0,.int .i64 0,.int .i64 0,.int .i64 0,.int .i64 0,.int .i64 0,.int .i64 0,.int .i64 0,.int .i64 0],.int .i64 1])/\Below V.heap.size V w'):=Lib.hid (fsGet_no hn f)
 clear hn
 go_enter Tryz.func73,Tryz.ntmps73
 go_wp2_with (go_at_call 116;refine (KG.out _).mono ?_;rintro e w2 ⟨rfl,hb2⟩
              have hb3:=hb2.trans ((below_box w2 (.cells #[.int .i64 0,.int .i64 0,.int .i64 0,.int .i64 0,.int .i64 0,.int .i64 0,.int .i64 0,.int .i64 0,.int .i64 0,.int .i64 0,.int .i64 0,.int .i64 0,.int .i64 0,.int .i64 0] 92)).mono hb2.size))
 go_ret2
 exact ⟨rfl,hb3⟩
section
variable {w:World}{P:Nat->Prop}{d p:Value}{X:XSt}{S:List Int}{N:List (List Int)}{bf:Nat}
theorem fmOpen_free (h:SInv w P d p X) (hf:FsAt w bf p) (hT:Tab X.cur S N) {n:Nat} (h1:1<=n) (h48:n<48) (hk:kindN N n=0) {W:World} (hb:Below w.heap.size w W):
 Calls Tryz.prog 73 #[.pointer (some ⟨bf,0,none⟩),.int .i64 n] W fun e w'=>e=.returned (.tuple #[.pointer none,.int .i64 1])/\Below W.heap.size W w':=by
 have KG0:=fsGet_yes h hf hT h1 h48 hb
 have hx:=hT.n.get h48
 unfold kindN at hk
 generalize N.getD n []=x at KG0 hx hk
 obtain ⟨kd,ln,sz,d0,d1,d2,d3,d4,d5,d6,d7,d8,d9,mp,rfl⟩:=l14_ex hx
 have hk0:kd=0:=hk
 subst hk0
 have KG:Hid (Calls Tryz.prog 116 #[.pointer (some ⟨bf,0,none⟩),.int .i64 n] W fun e w'=>e=.returned (.tuple #[.agg #[.int .i64 0,.int .i64 ln,.int .i64 sz,.int .i64 d0,.int .i64 d1,.int .i64 d2,.int .i64 d3,.int .i64 d4,.int .i64 d5,.int .i64 d6,.int .i64 d7,.int .i64 d8,.int .i64 d9,.int .i64 mp],.int .i64 0])/\Below W.heap.size W w'):=Lib.hid KG0
 clear KG0 h hf hT hb hx hk
 go_enter Tryz.func73,Tryz.ntmps73
 go_wp2_with (go_at_call 116;refine KG.out.mono ?_;rintro e w2 ⟨rfl,hb2⟩
              have hb3:=hb2.trans ((below_box w2 (.cells #[.int .i64 0,.int .i64 ln,.int .i64 sz,.int .i64 d0,.int .i64 d1,.int .i64 d2,.int .i64 d3,.int .i64 d4,.int .i64 d5,.int .i64 d6,.int .i64 d7,.int .i64 d8,.int .i64 d9,.int .i64 mp] 92)).mono hb2.size))
 go_ret2
 exact ⟨rfl,hb3⟩
theorem fmOpen_yes (h:SInv w P d p X) (hf:FsAt w bf p) (hT:Tab X.cur S N) {n:Nat} (h1:1<=n) (h48:n<48) (hk:kindN N n≠0) {W:World} (hb:Below w.heap.size w W):
 Calls Tryz.prog 73 #[.pointer (some ⟨bf,0,none⟩),.int .i64 n] W fun e w'=>∃ bc,e=.returned (.tuple #[.pointer (some ⟨bc,0,none⟩),.int .i64 0])/\W.heap.size<=bc/\ChAt w' bc bf n (N.getD n []) (.slice none 0 0)/\Below W.heap.size W w':=by
 have KG0:=fsGet_yes h hf hT h1 h48 hb
 have hx:=hT.n.get h48
 unfold kindN at hk
 generalize N.getD n []=x at KG0 hx hk
 obtain ⟨kd,ln,sz,d0,d1,d2,d3,d4,d5,d6,d7,d8,d9,mp,rfl⟩:=l14_ex hx
 have hk0:(kd==0)=false:=by simpa using hk
 have KG:Hid (Calls Tryz.prog 116 #[.pointer (some ⟨bf,0,none⟩),.int .i64 n] W fun e w'=>e=.returned (.tuple #[.agg #[.int .i64 kd,.int .i64 ln,.int .i64 sz,.int .i64 d0,.int .i64 d1,.int .i64 d2,.int .i64 d3,.int .i64 d4,.int .i64 d5,.int .i64 d6,.int .i64 d7,.int .i64 d8,.int .i64 d9,.int .i64 mp],.int .i64 0])/\Below W.heap.size W w'):=Lib.hid KG0
 clear KG0 h hf hT hb hx hk
 go_enter Tryz.func73,Tryz.ntmps73
 go_wp2_with (go_at_call 116;refine KG.out.mono ?_;rintro e w2 ⟨rfl,hb2⟩
              have hb3:=hb2.trans ((below_box w2 (.cells #[.int .i64 kd,.int .i64 ln,.int .i64 sz,.int .i64 d0,.int .i64 d1,.int .i64 d2,.int .i64 d3,.int .i64 d4,.int .i64 d5,.int .i64 d6,.int .i64 d7,.int .i64 d8,.int .i64 d9,.int .i64 mp] 92)).mono hb2.size)
              have hb4:=below_box (w2.alloc (iO [kd,ln,sz,d0,d1,d2,d3,d4,d5,d6,d7,d8,d9,mp] 92)) (.cells (chC bf n [kd,ln,sz,d0,d1,d2,d3,d4,d5,d6,d7,d8,d9,mp] (.slice none 0 0)).toArray 94)
              have hr4:=heap_alloc_new (w2.alloc (iO [kd,ln,sz,d0,d1,d2,d3,d4,d5,d6,d7,d8,d9,mp] 92)) (.cells (chC bf n [kd,ln,sz,d0,d1,d2,d3,d4,d5,d6,d7,d8,d9,mp] (.slice none 0 0)).toArray 94))
 go_ret2
 refine ⟨_,rfl,Nat.le_trans hb2.size (Nat.le_succ _),⟨rfl,rfl,?_⟩,hb3.trans (hb4.mono hb3.size)⟩
 have e:(w2.alloc (iO [kd,ln,sz,d0,d1,d2,d3,d4,d5,d6,d7,d8,d9,mp] 92)).heap.size=w2.heap.size+1:=by simp
 rw[e] at hr4
 exact hr4
end
theorem OwAt.outJ {O:List (Int × Int)}{kk:Nat}{v:Int}{o:Int × Int} (h:OwAt O kk v o) (h12:kk<=12):OutJ v.toNat:=by
 have hx:=h.2.1
 have:=h.1
 unfold fixB at hx
 have:=of_decide_eq_false hx
 unfold OutJ;omega
section
variable {w:World}{P:Nat->Prop}{d p:Value}{X:XSt}{S:List Int}{N:List (List Int)}{bf:Nat}
theorem mapS_has {F:List Int} (h:F.length=128/\locS F=true):hasM (mapS F)/\rdK (mapS F) 128=F/\(mapS F).length=256:=⟨has_map h.1 h.2,rd_map h.1 h.2,by rw[mapS,mapK_length]⟩
theorem chRead_hole {W:World}{bc n:Nat}{x:List Int}{fv:Value} (hc:ChAt W bc bf n x fv) (hm:num x 13=0) (hP:∀ k,P k->k<W.heap.size):
 Calls Tryz.prog 74 #[.pointer (some ⟨bc,0,none⟩)] W fun e w'=>e=.returned (.int .i64 0)/\∃ fv bg,ChAt w' bc bf n x fv/\FarA w' W.heap.size bc P fv (List.replicate 128 0) bg/\KeptG W w' bc:=by
 obtain ⟨M,hM⟩:∃ M:Nat,M=128:=⟨_,rfl⟩
 have HMI:Hid ((128:Int)=(M:Int)):=Lib.hid (by omega)
 have hm1:=hc.cm
 rw[hm] at hm1
 have hc2:=hc.low (below_box W (iO (List.replicate M 0) 3))
 have hr2:=heap_alloc_new W (iO (List.replicate M 0) 3)
 have c16:=hc2.cf
 have f16:=hc2.free 16
 have hlt:=hc.lt
 have hc3:=hc2.setF (.slice (some ⟨W.heap.size,0,none⟩) M M) rfl
 have hw3:=Wrote.setCell (W.alloc (iO (List.replicate M 0) 3)) bc 16 (.slice (some ⟨W.heap.size,0,none⟩) M M)
 have HC:=Lib.hid hc3
 have HR:=Lib.hid ((hw3.2.2.2.2 W.heap.size (by omega)).trans hr2)
 have HK:=Lib.hid (((KeptG.refl W bc).then (below_box W (iO (List.replicate M 0) 3))).wrote hw3)
 have HL:=Lib.hid hlt
 have HP:=Lib.hid hP
 have HM:=Lib.hid hM
 have hM1:M<=1000:=by omega
 clear hc hm hc2 hr2 hlt hc3 hw3 hP hM
 go_enter Tryz.func74,Tryz.ntmps74
 go_wp2_with (at_make;refine wpList_make_int _ rfl _ _ rfl _ M rfl rfl HMI.out (by omega) ?_)
 go_ret
 have hM:=HM.out
 refine ⟨rfl,.slice (some ⟨W.heap.size,0,none⟩) M M,W.heap.size,HC.out,⟨by simp,Nat.le_refl _,by have:=HL.out;omega,fun hp=>by have:=HP.out _ hp;omega,by rw[hM],by rw[<- hM];exact HR.out⟩,HK.out⟩
theorem chRead_map (h:SInv w P d p X) (hf:FsAt w bf p) {W:World} (hb:Below w.heap.size w W) {bc n:Nat}{x F:List Int}{fv:Value} (hc:ChAt W bc bf n x fv) {m:Nat} (hm:num x 13=(m:Int)) (hm0:m≠0) (hml:m<X.cur.length) (ho:OutJ m) (hF:F.length=128/\locS F=true) (hG:X.cur.getD m []=mapS F) (hbc:w.heap.size<=bc):
 Calls Tryz.prog 74 #[.pointer (some ⟨bc,0,none⟩)] W fun e w'=>e=.returned (.int .i64 0)/\∃ fv bg,ChAt w' bc bf n x fv/\FarA w' W.heap.size bc P fv F bg/\KeptG W w' bc:=by
 obtain ⟨h1,h2,h3⟩:=mapS_has hF
 have hlt:=h.lt
 have hc0:=hc.c0
 have hcm:=hc.cm
 rw[hm] at hcm
 have hmz:((m:Int)==0)=false:=by simp;omega
 have cb:=(hf.low hb).cell
 have hbd:Below W.heap.size W W.drew:=(Below.refl _ _).drew
 have KG:=Lib.hid (sGet_cur h hml ho hG (hb.trans (hbd.mono hb.size)))
 have KD:Hid (∀ (V:World) (v:Value),BSl V v (mapS F)->Calls Tryz.prog 117 #[v] V fun e w'=>e=.returned (.tuple #[.slice (some ⟨V.heap.size,0,none⟩) 128 128,.int .i64 0])/\w'.heap[V.heap.size]? =some (iO F 3)/\Below V.heap.size V w'):=Lib.hid fun V v hv=>(iDecM_row hv h3).mono fun e w' ho=>by
  rcases ho with ⟨_,a,b,c⟩| ⟨a,_⟩
  · rw[h2] at b;exact ⟨a,b,c⟩
  · exact absurd h1 a
 have HC:Hid (∀ V,Below W.heap.size W V->ChAt V bc bf n x fv):=Lib.hid fun V hv=>hc.low hv
 have HL:=Lib.hid hc.lt
 have HP:Hid (∀ k,P k->k<W.heap.size):=Lib.hid fun k hk=>Nat.lt_of_lt_of_le (hlt k hk) hb.size
 have HF:=Lib.hid hF.1
 have d0:W.drew.cell? ⟨bc,0,none⟩=some (.pointer (some ⟨bf,0,none⟩)):=hc0
 have d15:W.drew.cell? ⟨bc,15,none⟩=some (.int .i64 (m:Nat)):=hcm
 have db:W.drew.cell? ⟨bf,0,none⟩=some p:=cb
 have HS2:Hid (∀ V,Below W.heap.size W V->V.cell? ⟨bc,0,none⟩=some (.pointer (some ⟨bf,0,none⟩))/\V.cell? ⟨bc,15,none⟩=some (.int .i64 (m:Nat))/\V.cell? ⟨bf,0,none⟩=some p):=Lib.hid fun V hv=>⟨(hc.low hv).c0,by rw[(hc.low hv).cm,hm],(hf.low (hb.trans (hv.mono hb.size))).cell⟩
 clear h hf hb hc hm hm0 hml ho hF hG hbc h1 h2 h3 hlt hbd
 go_enter Tryz.func74,Tryz.ntmps74
 go_wp2
 go_region_held3 (fun V=>V.cell? ⟨bc,0,none⟩=some (.pointer (some ⟨bf,0,none⟩))/\V.cell? ⟨bc,15,none⟩=some (.int .i64 (m:Nat))/\V.cell? ⟨bf,0,none⟩=some p) (first|exact ⟨d0,d15,db⟩|exact s2) (first
  |(go_at_call 18;(with_reducible refine KG.out.mono ?_);rintro e w2 ⟨v,rfl,hv,hb2⟩
    have hb02:Below W.heap.size W w2:=((Below.refl _ _).drew).trans (hb2.mono (Nat.le_refl _))
    have s2:=HS2.out _ hb02))
 all_goals
  go_wp2_with (first
   |(go_at_call 117;(with_reducible refine (KD.out _ _ hv).mono ?_);rintro e w3 ⟨rfl,hr3,hb3⟩
     have hb03:=hb02.trans (hb3.mono hb02.size)
     have hc3:=HC.out _ hb03
     have c16:=hc3.cf
     have f16:=hc3.free 16
     have hw4:=Wrote.setCell w3 bc 16 (.slice (some ⟨w2.heap.size,0,none⟩) 128 128)
     have HC4:=Lib.hid (hc3.setF (.slice (some ⟨w2.heap.size,0,none⟩) 128 128) rfl)
     have HR4:=Lib.hid hr3
     have HW4:=Lib.hid hw4
     have HB3:=Lib.hid hb03
     clear hc3 hw4 hr3))
  go_ret
  have hl:=HL.out
  have h2s:=hb02.size
  refine ⟨rfl,_,w2.heap.size,HC4.out,⟨HF.out,h2s,by omega,fun hp=>by have:=HP.out _ hp;omega,rfl,(HW4.out.2.2.2.2 _ (by omega)).trans HR4.out⟩,((KeptG.refl W bc).then HB3.out).wrote HW4.out⟩
end
theorem chAt_near {W:World}{bc bf n:Nat}{x:List Int}{fv:Value} (hc:ChAt W bc bf n x fv) {i:Nat} (hi:i<10):
 Calls Tryz.prog 37 #[.pointer (some ⟨bc,0,none⟩),.int .i64 i] W fun e w'=>e=.returned (.int .i64 (num x (3+i)))/\W=w':=by
 have c:=hc.num (k:=3+i) (by omega)
 rw[show 2+(3+i)=5+i by omega] at c
 obtain ⟨v,hv⟩:∃ v,v=num x (3+i):=⟨_,rfl⟩
 rw[<- hv] at c |-
 have ei:(i:Int)<10:=by omega
 clear hc hv
 go_enter Tryz.func37,Tryz.ntmps37
 go_wp2
 go_ret
 exact ⟨rfl,rfl⟩
theorem chAt_far {W:World}{bc bf n B bg:Nat}{P:Nat->Prop}{x F:List Int}{fv:Value} (hc:ChAt W bc bf n x fv) (hF:FarA W B bc P fv F bg) {i:Nat} (h10:10<=i) (hi:i<138):
 Calls Tryz.prog 37 #[.pointer (some ⟨bc,0,none⟩),.int .i64 i] W fun e w'=>e=.returned (.int .i64 (num F (i-10)))/\W=w':=by
 obtain ⟨f1,f2,f3,f4,rfl,f6⟩:=hF
 have cf:=hc.cf
 have c:=io_cell f6 (i-10) (by omega)
 obtain ⟨v,hv⟩:∃ v,v=num F (i-10):=⟨_,rfl⟩
 rw[show F.getD (i-10) 0=v by rw[hv];rfl] at c
 rw[<- hv]
 obtain ⟨j,hj⟩:∃ j,j=i-10:=⟨_,rfl⟩
 rw[<- hj] at c
 have e1:IntKind.i64.wrap ((i:Int)-10)=(j:Int):=by rw[IntWalk.i64_in _ (by omega)];omega
 have e10:¬ (i:Int)<10:=by omega
 have ej:(j:Int)<128:=by omega
 clear hc f1 f2 f3 f4 f6 hv hj h10 hi
 go_enter Tryz.func37,Tryz.ntmps37
 go_wp2
 go_ret
 exact ⟨rfl,rfl⟩
theorem chAt_of {W:World}{bc bf n B:Nat}{P:Nat->Prop}{x F:List Int}{fv:Value} (hc:ChAt W bc bf n x fv) {i:Nat} (hF:10<=i->∃ bg,FarA W B bc P fv F bg) (hi:i<138):
 Calls Tryz.prog 37 #[.pointer (some ⟨bc,0,none⟩),.int .i64 i] W fun e w'=>e=.returned (.int .i64 (locX x F i))/\W=w':=by
 unfold locX
 by_cases h:i<10
 · rw[if_pos h];exact chAt_near hc h
 · rw[if_neg h,if_neg (by omega)]
   obtain ⟨bg,hg⟩:=hF (by omega)
   exact chAt_far hc hg (by omega) hi
def goalX (x F:List Int) (i:Nat):Int:=if i=0\/locX x F (i-1)=0 then 0 else locX x F (i-1)+1
theorem chGoal_of {W:World}{bc bf n B:Nat}{P:Nat->Prop}{x F:List Int}{fv:Value} (hc:ChAt W bc bf n x fv) {i:Nat} (hF:10<=i->∃ bg,FarA W B bc P fv F bg) (hi:i<138) (hbd:0<i->0<=locX x F (i-1)/\locX x F (i-1)<=767):
 Calls Tryz.prog 40 #[.pointer (some ⟨bc,0,none⟩),.int .i64 i] W fun e w'=>e=.returned (.int .i64 (goalX x F i))/\W=w':=by
 by_cases h0:i=0
 · subst h0
   have e1:goalX x F 0=0:=if_pos (.inl rfl)
   rw[e1]
   clear hc hF hbd e1
   go_enter Tryz.func40,Tryz.ntmps40
   go_wp2
   go_ret
   exact ⟨rfl,rfl⟩
 · have KA:=Lib.hid (chAt_of (i:=i-1) hc (fun h=>hF (by omega)) (by omega))
   obtain ⟨v,hv⟩:∃ v,v=locX x F (i-1):=⟨_,rfl⟩
   have eg:goalX x F i=if v=0 then 0 else v+1:=by unfold goalX;rw[<- hv];by_cases e:v=0 <;> simp[e,h0]
   have hb:=hbd (by omega)
   rw[<- hv] at KA hb
   rw[eg]
   obtain ⟨j,hj⟩:∃ j,j=i-1:=⟨_,rfl⟩
   rw[<- hj] at KA
   have e1:IntKind.i64.wrap ((i:Int)-1)=(j:Int):=by rw[IntWalk.i64_in _ (by omega)];omega
   have e2:IntKind.i64.wrap (v+1)=v+1:=IntWalk.i64_in _ (by omega)
   have ei:((i:Int)==0)=false:=by simp;omega
   clear hc hF hbd hv eg hj h0 hi hb
   by_cases hz:v=0
   · subst hz
     go_enter Tryz.func40,Tryz.ntmps40
     go_wp2_with (go_at_call 37;refine KA.out.mono ?_;rintro e w' ⟨rfl,rfl⟩)
     go_ret
     exact ⟨rfl,rfl⟩
   · rw[if_neg hz]
     have hz2:(v==0)=false:=by simpa using hz
     clear hz
     go_enter Tryz.func40,Tryz.ntmps40
     go_wp2_with (go_at_call 37;refine KA.out.mono ?_;rintro e w' ⟨rfl,rfl⟩)
     go_ret
     exact ⟨rfl,rfl⟩
section
variable {w:World}{P:Nat->Prop}{d p:Value}{X:XSt}{S:List Int}{N:List (List Int)}{O:List (Int × Int)}{kk:Nat}{F:Nat->List Int}{bf:Nat}
theorem chRead_of (h:SInv w P d p X) (hf:FsAt w bf p) (hF:Fils noEx X.cur S N O kk F) (h12:kk<=12) (hl:X.cur.length=64*kk) {n:Nat} (h1:1<=n) (h48:n<48) {W:World} (hb:Below w.heap.size w W) {bc:Nat}{fv:Value} (hc:ChAt W bc bf n (N.getD n []) fv) (hbc:w.heap.size<=bc):
 Calls Tryz.prog 74 #[.pointer (some ⟨bc,0,none⟩)] W fun e w'=>e=.returned (.int .i64 0)/\∃ fv bg,ChAt w' bc bf n (N.getD n []) fv/\FarA w' W.heap.size bc P fv (F n) bg/\KeptG W w' bc:=by
 by_cases hm:num (N.getD n []) 13=0
 · rw[hF.m0 n h1 h48 hm]
   exact chRead_hole hc hm fun k hk=>Nat.lt_of_lt_of_le (h.lt k hk) hb.size
 · have ho:=hF.map h1 h48 id hm
   have h2:=ho.1
   exact chRead_map h hf hb hc (m:=(num (N.getD n []) 13).toNat) (by omega) (by omega) (by omega) (ho.outJ h12) (hF.fl n) (hF.m1 n h1 h48 hm) hbc
def OpenA (W:World) (P:Nat->Prop) (bf n:Nat) (x F:List Int) (i:Nat) (e:Ending) (w':World):Prop:=
 ∃ bc fv,e=.returned (.tuple #[.pointer (some ⟨bc,0,none⟩),.int .i64 0])/\W.heap.size<=bc/\ChAt w' bc bf n x fv/\(10<=i->∃ bg,FarA w' W.heap.size bc P fv F bg)/\Below W.heap.size W w'
theorem fmOpenAt_yes (h:SInv w P d p X) (hf:FsAt w bf p) (hT:Tab X.cur S N) (hF:Fils noEx X.cur S N O kk F) (h12:kk<=12) (hl:X.cur.length=64*kk) {n:Nat} (h1:1<=n) (h48:n<48) (hk:kindN N n≠0) {i:Nat} (hi:i<138) {W:World} (hb:Below w.heap.size w W):
 Calls Tryz.prog 36 #[.pointer (some ⟨bf,0,none⟩),.int .i64 n,.int .i64 i] W (OpenA W P bf n (N.getD n []) (F n) i):=by
 have KO:=Lib.hid (fmOpen_yes h hf hT h1 h48 hk hb)
 have KR:=Lib.hid (fun (V:World) (bc:Nat) (fv:Value) (hv:Below w.heap.size w V) (hc:ChAt V bc bf n (N.getD n []) fv) (hbc:w.heap.size<=bc)=>chRead_of h hf hF h12 hl h1 h48 hv hc hbc)
 have HB:=Lib.hid hb
 have ei:(i:Int)<138:=by omega
 clear h hf hT hF hk hb
 by_cases hn:i<10
 · have en:(i:Int)<10:=by omega
   go_enter Tryz.func36,Tryz.ntmps36
   go_wp2_with (go_at_call 73;refine KO.out.mono ?_;rintro e w2 ⟨bc,rfl,hbc,hc,hb2⟩)
   go_ret2
   exact ⟨bc,_,rfl,hbc,hc,fun h=>absurd h (by omega),hb2⟩
 · have en:¬ (i:Int)<10:=by omega
   go_enter Tryz.func36,Tryz.ntmps36
   go_wp2_with (first
    |(go_at_call 73;refine KO.out.mono ?_;rintro e w2 ⟨bc,rfl,hbc,hc,hb2⟩)
    |(go_at_call 74;refine (KR.out _ _ _ (HB.out.trans (hb2.mono HB.out.size)) hc (Nat.le_trans HB.out.size hbc)).mono ?_;rintro e w3 ⟨rfl,fv,bg,hc3,hg3,hk3⟩))
   go_ret2
   exact ⟨bc,fv,rfl,hbc,hc3,fun _=>⟨bg,hg3.1,Nat.le_trans hb2.size hg3.2.1,hg3.2.2⟩,hb2.trans (hk3.below hbc hb2.size)⟩
theorem fmOpenAll_yes (h:SInv w P d p X) (hf:FsAt w bf p) (hT:Tab X.cur S N) (hF:Fils noEx X.cur S N O kk F) (h12:kk<=12) (hl:X.cur.length=64*kk) {n:Nat} (h1:1<=n) (h48:n<48) (hk:kindN N n≠0) {W:World} (hb:Below w.heap.size w W):
 Calls Tryz.prog 45 #[.pointer (some ⟨bf,0,none⟩),.int .i64 n] W (OpenA W P bf n (N.getD n []) (F n) 10):=by
 have KO:=Lib.hid (fmOpen_yes h hf hT h1 h48 hk hb)
 have KR:=Lib.hid (fun (V:World) (bc:Nat) (fv:Value) (hv:Below w.heap.size w V) (hc:ChAt V bc bf n (N.getD n []) fv) (hbc:w.heap.size<=bc)=>chRead_of h hf hF h12 hl h1 h48 hv hc hbc)
 have HB:=Lib.hid hb
 clear h hf hT hF hk hb
 go_enter Tryz.func45,Tryz.ntmps45
 go_wp2_with (first
  |(go_at_call 73;refine KO.out.mono ?_;rintro e w2 ⟨bc,rfl,hbc,hc,hb2⟩)
  |(go_at_call 74;refine (KR.out _ _ _ (HB.out.trans (hb2.mono HB.out.size)) hc (Nat.le_trans HB.out.size hbc)).mono ?_;rintro e w3 ⟨rfl,fv,bg,hc3,hg3,hk3⟩))
 go_ret2
 exact ⟨bc,fv,rfl,hbc,hc3,fun _=>⟨bg,hg3.1,Nat.le_trans hb2.size hg3.2.1,hg3.2.2⟩,hb2.trans (hk3.below hbc hb2.size)⟩
theorem fmOpenAt_bad {n:Int} (hn:n<1\/47<n) (f:Value) (i:Int) (W:World):Calls Tryz.prog 36 #[f,.int .i64 n,.int .i64 i] W fun e w'=>e=.returned (.tuple #[.pointer none,.int .i64 1])/\Below W.heap.size W w':=by
 have KO:=Lib.hid (fmOpen_bad hn f W)
 clear hn
 go_enter Tryz.func36,Tryz.ntmps36
 go_wp2_with (go_at_call 73;refine KO.out.mono ?_;rintro e w2 ⟨rfl,hb2⟩)
 go_ret2
 exact ⟨rfl,hb2⟩
theorem fmOpenAll_bad {n:Int} (hn:n<1\/47<n) (f:Value) (W:World):Calls Tryz.prog 45 #[f,.int .i64 n] W fun e w'=>e=.returned (.tuple #[.pointer none,.int .i64 1])/\Below W.heap.size W w':=by
 have KO:=Lib.hid (fmOpen_bad hn f W)
 clear hn
 go_enter Tryz.func45,Tryz.ntmps45
 go_wp2_with (go_at_call 73;refine KO.out.mono ?_;rintro e w2 ⟨rfl,hb2⟩)
 go_ret2
 exact ⟨rfl,hb2⟩
theorem fmOpenAt_free (h:SInv w P d p X) (hf:FsAt w bf p) (hT:Tab X.cur S N) {n:Nat} (h1:1<=n) (h48:n<48) (hk:kindN N n=0) (i:Int) {W:World} (hb:Below w.heap.size w W):
 Calls Tryz.prog 36 #[.pointer (some ⟨bf,0,none⟩),.int .i64 n,.int .i64 i] W fun e w'=>e=.returned (.tuple #[.pointer none,.int .i64 1])/\Below W.heap.size W w':=by
 have KO:=Lib.hid (fmOpen_free h hf hT h1 h48 hk hb)
 clear h hf hT hk hb
 go_enter Tryz.func36,Tryz.ntmps36
 go_wp2_with (go_at_call 73;refine KO.out.mono ?_;rintro e w2 ⟨rfl,hb2⟩)
 go_ret2
 exact ⟨rfl,hb2⟩
theorem fmOpenAll_free (h:SInv w P d p X) (hf:FsAt w bf p) (hT:Tab X.cur S N) {n:Nat} (h1:1<=n) (h48:n<48) (hk:kindN N n=0) {W:World} (hb:Below w.heap.size w W):
 Calls Tryz.prog 45 #[.pointer (some ⟨bf,0,none⟩),.int .i64 n] W fun e w'=>e=.returned (.tuple #[.pointer none,.int .i64 1])/\Below W.heap.size W w':=by
 have KO:=Lib.hid (fmOpen_free h hf hT h1 h48 hk hb)
 clear h hf hT hk hb
 go_enter Tryz.func45,Tryz.ntmps45
 go_wp2_with (go_at_call 73;refine KO.out.mono ?_;rintro e w2 ⟨rfl,hb2⟩)
 go_ret2
 exact ⟨rfl,hb2⟩
theorem fmOpenAt_out (h:SInv w P d p X) (hf:FsAt w bf p) (hT:Tab X.cur S N) {n:Nat} (h1:1<=n) (h48:n<48) (hk:kindN N n≠0) {i:Int} (hi:i<0\/138<=i) {W:World} (hb:Below w.heap.size w W):
 Calls Tryz.prog 36 #[.pointer (some ⟨bf,0,none⟩),.int .i64 n,.int .i64 i] W fun e w'=>e=.returned (.tuple #[.pointer none,.int .i64 1])/\Below W.heap.size W w':=by
 have KO:=Lib.hid (fmOpen_yes h hf hT h1 h48 hk hb)
 clear h hf hT hk hb
 by_cases h0:i<0
 · clear hi
   go_enter Tryz.func36,Tryz.ntmps36
   go_wp2_with (go_at_call 73;refine KO.out.mono ?_;rintro e w2 ⟨bc,rfl,hbc,hc,hb2⟩)
   go_ret2
   exact ⟨rfl,hb2⟩
 · have h3:¬ i<138:=by omega
   have h4:138<=i:=by omega
   clear hi
   go_enter Tryz.func36,Tryz.ntmps36
   go_wp2_with (go_at_call 73;refine KO.out.mono ?_;rintro e w2 ⟨bc,rfl,hbc,hc,hb2⟩)
   go_ret2
   exact ⟨rfl,hb2⟩
end
end Go.Proofs.YtaakepjgpnaecaaGreat
namespace Go.Proofs.YtaakepjgpnaecaaGreat
set_option maxRecDepth 100000
open Go.RowKit
theorem q1 {α:Type _} (l:List α) (i:Nat) (a:α):l.toArray.setIfInBounds i a=(l.set i a).toArray:=List.setIfInBounds_toArray l i a
theorem q2 {α:Type _}{x:α}{xs:List α}{a:α}:(x :: xs).set 0 a=a :: xs:=List.set_cons_zero
theorem q3 {α:Type _}{x:α}{xs:List α}{i:Nat}{a:α}:(x :: xs).set (i+1) a=x :: xs.set i a:=List.set_cons_succ
theorem q4 {α:Type _}{xs:List α}{i:Nat} (h:i<xs.toArray.size):xs.toArray[i]=xs[i]'(by simpa using h):=List.getElem_toArray h
theorem q5 {α:Type _} (a:α) (l:List α) (h:0<(a :: l).length):(a :: l)[0]=a:=List.getElem_cons_zero a l h
theorem q6 {α:Type _} (a:α) (l:List α) (i:Nat) (h:i+1<(a :: l).length):(a :: l)[i+1]=l[i]'(by simpa using h):=List.getElem_cons_succ a l i h
theorem tk {P:Program}{ops:Array Oper}{Q:Exit->Act->World->Prop}{md:Region.Mode}{S:World->Prop} (i:Nat) {oi:Oper} (v:Value) {fuel:Nat}{listed:Array Bool}{a:Act}{w:World} (hi:ops[i]? =some oi)
 (hb:(Region.noSelect ops && (Region.free md ops listed i && (Region.ready md ops listed).contains i))=true)
 (hQ:∀ c a w,Q (.panic c) (a.put oi.dst v) w->Q (.panic c) a w) (hy:YieldsIf P ops S oi v a) (hS:S w)
 (h:wpAnyH P md ops Q S fuel (listed.setIfInBounds i true) (a.put oi.dst v) w):wpAnyH P md ops Q S (fuel+1) listed a w:=by
 rw[Bool.and_eq_true,Bool.and_eq_true] at hb
 exact wpAnyH_take hi hb.1 hb.2.1 hb.2.2 hQ hy hS h
end Go.Proofs.YtaakepjgpnaecaaGreat
