/- What the law rests on: part 24. -/
import Derived.Test.YtaakepjgpnaecaaGreatKP23
set_option linter.unusedVariables false
namespace Go.Proofs.YtaakepjgpnaecaaGreat
set_option maxRecDepth 100000
open Go.RowKit BM
structure CutR (X:XSt) (S:List Int) (N:List (List Int)) (O:List (Int × Int)) (kk:Nat) (F:Nat->List Int) (n a:Nat) (Q:List Int) (X':XSt) (N':List (List Int)) (O':List (Int × Int)) (F':Nat->List Int):Prop where
 st:Cst S kk X.call N O F n X'.call N' O' F'
 loc:∀ b,b<138->locX (N'.getD n []) (F' n) b=if a<=b then 0 else locX (N.getD n []) (F n) b
 mp:num (N'.getD n []) 13≠0 ↔ (num (N.getD n []) 13≠0/\∃ b,10<=b/\b<138/\locX (N'.getD n []) (F' n) b≠0)
 on:Onw X X'
 pt:PutS X' Q
def CutK (w:World) (P:Nat->Prop) (d p:Value) (X:XSt) (S:List Int) (N:List (List Int)) (O:List (Int × Int)) (kk:Nat) (F:Nat->List Int) (bf n a k bc:Nat) (fv:Value) (Q:List Int) (wr:World):Prop:=
 ∃ P1 X1 N1 O1 F1,Chs w P wr P1 d p X1 S N1 O1 kk F1 bf n 10 bc fv/\Cst S kk X.call N O F n X1.call N1 O1 F1/\Onw X X1/\PutS X1 Q/\(∀ b,b<138->locX (N1.getD n []) (F1 n) b=if a<=b/\b<k then 0 else locX (N.getD n []) (F n) b)/\num (N1.getD n []) 13=num (N.getD n []) 13
section
variable {w:World}{P:Nat->Prop}{d p:Value}{X:XSt}{S:List Int}{N:List (List Int)}{O:List (Int × Int)}{kk:Nat}{F:Nat->List Int}{bf n:Nat}{Q:List Int}
theorem Chs.openAll (h:Fmd w P d p X S N O kk F bf) (h1:1<=n) (h48:n<48) (hk:kindN N n≠0):
 Calls Tryz.prog 45 #[.pointer (some ⟨bf,0,none⟩),.int .i64 n] w fun e w'=>∃ bc,e=.returned (.tuple #[.pointer (some ⟨bc,0,none⟩),.int .i64 0])/\∃ fv,Chs w P w' P d p X S N O kk F bf n 10 bc fv:=by
 have hc:=h.cur
 refine (fmOpenAll_yes (F:=F) h.inv h.fs (by rw[hc];exact h.pl.tab) (by rw[hc];exact h.pl.fi) h.pl.ok.k12 (by rw[hc];exact h.pl.has.len) h1 h48 hk (Below.refl _ _)).mono ?_
 rintro e w' ⟨bc,fv,he,hbc,hch,hfa,hb⟩
 exact ⟨bc,he,fv,h.low hb,hch,fun hp=>by have:=h.inv.lt _ hp;omega,hbc,hfa,Chg.of_below hb⟩
theorem kind_num (N:List (List Int)) (n:Nat):kindN N n=num (N.getD n []) 0:=rfl
theorem CutK.step {a k bc:Nat}{fv:Value}{wr:World} (h:CutK w P d p X S N O kk F bf n a k bc fv Q wr) (h1:1<=n) (h48:n<48) (hk:kindN N n≠0) (hak:a<=k) (hi:k<138) (hQ:Q.length<=35) (hB:Base Q S kk n (num (N.getD n []) 13)):
 Calls Tryz.prog 46 #[.pointer (some ⟨bc,0,none⟩),.int .i64 k] wr fun e w'=>e=.returned (.int .i64 0)/\CutK w P d p X S N O kk F bf n a (k+1) bc fv Q w':=by
 obtain ⟨P1,X1,N1,O1,F1,hc,hs,ho,hq,hl,hm⟩:=h
 refine (hc.drop h1 h48 (by rw[kind_num,hs.hd 0 (by decide),<- kind_num];exact hk) hi hq hQ (by rw[hm];exact hB)).mono ?_
 rintro e w' ⟨he,P2,X2,N2,O2,F2,hc2,hs2,ho2,hq2,hl2,hm2⟩
 refine ⟨he,P2,X2,N2,O2,F2,hc2,hs.trans hs2,ho.trans ho2,hq2,fun b hb=>?_,hm2.trans hm⟩
 rw[hl2 b hb,hl b hb]
 by_cases e:b=k
 · rw[if_pos e,if_pos (by omega)]
 · rw[if_neg e]
   by_cases c:a<=b/\b<k
   · rw[if_pos c,if_pos (by omega)]
   · rw[if_neg c,if_neg (by omega)]
theorem anyN_loc {x F:List Int} (hF:F.length=128):anyN F=true ↔ ∃ b,10<=b/\b<138/\locX x F b≠0:=by
 have e:∀ b,10<=b->b<138->locX x F b=F.getD (b-10) 0:=fun b h1 h2=>by unfold locX num;rw[if_neg (by omega),if_neg (by omega)]
 constructor
 · intro h
   apply Classical.byContradiction
   intro hn
   have:anyN F=false:=anyN_no.2 fun j hj=>by
    apply Classical.byContradiction
    intro h2
    exact hn ⟨j+10,by omega,by omega,by rw[e _ (by omega) (by omega),show j+10-10=j by omega];exact h2⟩
   rw[h] at this;cases this
 · rintro ⟨b,h1,h2,h3⟩
   rw[e b h1 h2] at h3
   exact anyN_yes (by omega) h3
theorem CutK.last {a k bc:Nat}{fv:Value}{wr:World} (h:CutK w P d p X S N O kk F bf n a k bc fv Q wr) (h1:1<=n) (h48:n<48) (hk:kindN N n≠0) (hi:138<=k) (hQ:Q.length<=35) (hB:Base Q S kk n (num (N.getD n []) 13)):
 Calls Tryz.prog 47 #[.pointer (some ⟨bc,0,none⟩)] wr fun e w'=>e=.returned (.int .i64 0)/\∃ P' X' N' O' F',Fmd w' P' d p X' S N' O' kk F' bf/\CutR X S N O kk F n a Q X' N' O' F'/\Chg P P' w w':=by
 obtain ⟨P1,X1,N1,O1,F1,hc,hs,ho,hq,hl,hm⟩:=h
 refine (hc.dropMap h1 h48 (by rw[kind_num,hs.hd 0 (by decide),<- kind_num];exact hk) hq hQ (by rw[hm];exact hB)).mono ?_
 rintro e w' ⟨he,P2,X2,N2,O2,F2,hc2,hs2,ho2,hq2,hg,hl2,hm2⟩
 have hF1:=(hc.md.pl.fi.fl n).1
 refine ⟨he,P2,X2,N2,O2,F2,hc2,⟨hs.trans hs2,fun b hb=>?_,?_,ho.trans ho2,hq2⟩,hg⟩
 · rw[hl2 b hb,hl b hb]
   by_cases c:a<=b
   · rw[if_pos ⟨c,by omega⟩,if_pos c]
   · rw[if_neg (fun e=>c e.1),if_neg c]
 · rw[hm2,hm,anyN_loc (x:=N1.getD n []) hF1]
   constructor
   · rintro ⟨a1,b,b1,b2,b3⟩;exact ⟨a1,b,b1,b2,by rw[hl2 b b2];exact b3⟩
   · rintro ⟨a1,b,b1,b2,b3⟩;exact ⟨a1,b,b1,b2,by rw[hl2 b b2] at b3;exact b3⟩
theorem fmCut_bad {f:Value}{n fr:Int}{R:World->Prop} (hO:Calls Tryz.prog 45 #[f,.int .i64 n] w fun e w'=>e=.returned (.tuple #[.pointer none,.int .i64 1])/\R w'):
 Calls Tryz.prog 17 #[f,.int .i64 n,.int .i64 fr] w fun e w'=>e=.returned (.int .i64 1)/\R w':=by
 have K:=Lib.hid hO
 clear hO
 go_enter Tryz.func17,Tryz.ntmps17
 go_wp2_with (go_at_call 45;refine K.out.mono ?_;rintro e w2 ⟨rfl,h2⟩)
 go_ret
 exact ⟨rfl,h2⟩
theorem fmCut_neg (h:Fmd w P d p X S N O kk F bf) (h1:1<=n) (h48:n<48) (hk:kindN N n≠0) {fr:Int} (hfr:fr<0):
 Calls Tryz.prog 17 #[.pointer (some ⟨bf,0,none⟩),.int .i64 n,.int .i64 fr] w fun e w'=>e=.returned (.int .i64 1)/\∃ P',Fmd w' P' d p X S N O kk F bf/\Chg P P' w w':=by
 have K:=Lib.hid (Chs.openAll h h1 h48 hk)
 clear h hk
 go_enter Tryz.func17,Tryz.ntmps17
 go_wp2_with (go_at_call 45;refine K.out.mono ?_;rintro e w2 ⟨bc,rfl,fv,h2⟩)
 go_ret
 exact ⟨rfl,P,h2.md,h2.cg⟩
theorem fmCut_of (h:Fmd w P d p X S N O kk F bf) (h1:1<=n) (h48:n<48) (hk:kindN N n≠0) {a:Nat} (ha:(a:Int)<=9223372036854775807) (hq:PutS X Q) (hQ:Q.length<=35) (hB:Base Q S kk n (num (N.getD n []) 13)):
 Calls Tryz.prog 17 #[.pointer (some ⟨bf,0,none⟩),.int .i64 n,.int .i64 a] w fun e w'=>e=.returned (.int .i64 0)/\∃ P' X' N' O' F',Fmd w' P' d p X' S N' O' kk F' bf/\CutR X S N O kk F n a Q X' N' O' F'/\Chg P P' w w':=by
 have K:=Lib.hid (Chs.openAll h h1 h48 hk)
 have HPL:=Lib.hid h.pl
 have KS:=Lib.hid (fun (k bc:Nat) (fv:Value) (wr:World) (h:CutK w P d p X S N O kk F bf n a k bc fv Q wr) (hak:a<=k) (hi:k<138)=>h.step h1 h48 hk hak hi hQ hB)
 have KL:=Lib.hid (fun (k bc:Nat) (fv:Value) (wr:World) (h:CutK w P d p X S N O kk F bf n a k bc fv Q wr) (hi:138<=k)=>h.last h1 h48 hk hi hQ hB)
 have HQ:=Lib.hid hq
 clear h hk hq hQ hB
 have ha0:¬ (a:Int)<0:=by omega
 go_enter Tryz.func17,Tryz.ntmps17
 go_wp2_with (go_at_call 45;refine K.out.mono ?_;rintro e w2 ⟨bc,rfl,fv,h2⟩)
 have HC0:Hid (CutK w P d p X S N O kk F bf n a a bc fv Q w2):=Lib.hid ⟨P,X,N,O,F,h2,Cst.refl HPL.out n,Onw.refl X,HQ.out,fun b _=>by rw[if_neg (by omega)],rfl⟩
 clear h2
 go_loopw [9] (fun i wr=>∃ k:Nat,(a<=k/\(k:Int)<=9223372036854775807)/\i=.int .i64 k/\Hid (CutK w P d p X S N O kk F bf n a k bc fv Q wr)) (fun i _=>138-(intOf i).toNat)
 case atStart=>exact ⟨a,⟨Nat.le_refl _,ha⟩,rfl,HC0⟩
 case round=>
  obtain ⟨k,⟨hak,hk⟩,rfl,HC⟩:=hrel
  clear HC0
  by_cases hlt:k<138
  · have KS1:=Lib.hid (KS.out k bc fv wr HC.out hak hlt)
    have ek:(k:Int)<138:=by omega
    go_wp2_with (go_at_call 46;refine KS1.out.mono ?_;rintro e w3 ⟨rfl,h3⟩)
    go_roundw
    case rel=>exact ⟨k+1,⟨by omega,by omega⟩,by go_num,Lib.hid h3⟩
    case measure=>simp[intOf];omega
  · have KL1:=Lib.hid (KL.out k bc fv wr HC.out (by omega))
    have ek:¬ (k:Int)<138:=by omega
    go_wp2_with (go_at_call 47;refine KL1.out.mono ?_;rintro e w3 ⟨rfl,h3⟩)
    go_ret
    exact ⟨rfl,h3⟩
theorem fmSet_bad {f:Value}{n i v:Int}{R:World->Prop} (hO:Calls Tryz.prog 36 #[f,.int .i64 n,.int .i64 i] w fun e w'=>e=.returned (.tuple #[.pointer none,.int .i64 1])/\R w'):
 Calls Tryz.prog 31 #[f,.int .i64 n,.int .i64 i,.int .i64 v] w fun e w'=>e=.returned (.int .i64 1)/\R w':=by
 have K:=Lib.hid hO
 clear hO
 go_enter Tryz.func31,Tryz.ntmps31
 go_wp2_with (go_at_call 36;refine K.out.mono ?_;rintro e w2 ⟨rfl,h2⟩)
 go_ret
 exact ⟨rfl,h2⟩
theorem fmSet_no (h:Fmd w P d p X S N O kk F bf) (h1:1<=n) (h48:n<48) (hk:kindN N n≠0) {i:Nat} (hi:i<138) {v:Int} (hno:v<1\/768<=v\/locX (N.getD n []) (F n) i=0):
 Calls Tryz.prog 31 #[.pointer (some ⟨bf,0,none⟩),.int .i64 n,.int .i64 i,.int .i64 v] w fun e w'=>e=.returned (.int .i64 1)/\∃ P',Fmd w' P' d p X S N O kk F bf/\Chg P P' w w':=by
 have K:=Lib.hid (Chs.open h h1 h48 hk hi)
 by_cases hv1:v<1
 · clear h hk hno
   go_enter Tryz.func31,Tryz.ntmps31
   go_wp2_with (go_at_call 36;refine K.out.mono ?_;rintro e w2 ⟨bc,rfl,fv,h2⟩)
   go_ret
   exact ⟨rfl,P,h2.md,h2.cg⟩
 · by_cases hv2:768<=v
   · clear h hk hno
     go_enter Tryz.func31,Tryz.ntmps31
     go_wp2_with (go_at_call 36;refine K.out.mono ?_;rintro e w2 ⟨bc,rfl,fv,h2⟩)
     go_ret
     exact ⟨rfl,P,h2.md,h2.cg⟩
   · have h0:locX (N.getD n []) (F n) i=0:=hno.elim (fun h=>absurd h hv1) fun h=>h.elim (fun h=>absurd h hv2) id
     have KA:Hid (∀ (V:World) (bc:Nat) (fv:Value),Chs w P V P d p X S N O kk F bf n i bc fv->Calls Tryz.prog 37 #[.pointer (some ⟨bc,0,none⟩),.int .i64 i] V fun e w'=>e=.returned (.int .i64 0)/\V=w'):=Lib.hid fun V bc fv hc=>by rw[<- h0];exact hc.at hi
     clear h hk hno h0
     go_enter Tryz.func31,Tryz.ntmps31
     go_wp2_with (first
      |(go_at_call 36;refine K.out.mono ?_;rintro e w2 ⟨bc,rfl,fv,h2⟩)
      |(go_at_call 37;refine (KA.out _ _ _ h2).mono ?_;rintro e w' ⟨rfl,rfl⟩))
     go_ret
     exact ⟨rfl,P,h2.md,h2.cg⟩
theorem fmSet_yes (h:Fmd w P d p X S N O kk F bf) (h1:1<=n) (h48:n<48) (hk:kindN N n≠0) {i:Nat} (hi:i<138) {v:Int} (hv1:1<=v) (hv2:v<768) (h0:locX (N.getD n []) (F n) i≠0) (hp:X.put.length<37):
 Calls Tryz.prog 31 #[.pointer (some ⟨bf,0,none⟩),.int .i64 n,.int .i64 i,.int .i64 v] w fun e w'=>e=.returned (.int .i64 0)/\∃ P' X',SInv w' P' d p X'/\X'.wi=true/\Onw X X'/\Chg P P' w w':=by
 have K:=Lib.hid (Chs.open h h1 h48 hk hi)
 have hbz:(locX (N.getD n []) (F n) i==0)=false:=by simpa using h0
 have KS:Hid (∀ (V:World) (bc:Nat) (fv:Value),Chs w P V P d p X S N O kk F bf n i bc fv->Calls Tryz.prog 41 #[.pointer (some ⟨bc,0,none⟩),.int .i64 i,.int .i64 v] V fun e w'=>e=.returned (.int .i64 0)/\∃ P' X',SInv w' P' d p X'/\X'.wi=true/\Onw X X'/\Chg P P' w w'):=Lib.hid fun V bc fv hc=>by
  by_cases h10:i<10
  · have hfx:=frmI_loc (h.pl.tab.n.get h48) (h.pl.tab.n.frm n h48) hk (a:=3+i) (by omega) (by omega) (v:=v) (by omega)
    refine (chSet_near hc.md.inv hc.md.wi hp hc.md.fs hc.md.pl.tab h1 h48 hc.ch hc.nc h10 hfx).mono ?_
    rintro e w' ⟨he,P',hi2,hch,hg,hnc⟩
    exact ⟨he,P',_,hi2,hc.md.wi,⟨rfl,rfl⟩,Chg.inner2 hc.cg hg fun k hk=>by rw[hk];exact hc.bb⟩
  · have hmz:num (N.getD n []) 13≠0:=fun e=>by
     have:=h.pl.fi.m0 n h1 h48 e
     have e2:locX (N.getD n []) (F n) i=num (F n) (i-10):=by unfold locX;rw[if_neg h10,if_neg (by omega)]
     rw[e2,this] at h0
     apply h0
     unfold num
     rw[List.getD_eq_getElem?_getD,List.getElem?_replicate]
     split <;> rfl
    have ho:=h.pl.fi.map h1 h48 id hmz
    obtain ⟨m,hm⟩:∃ m:Nat,num (N.getD n []) 13=(m:Int):=⟨(num (N.getD n []) 13).toNat,by have:=ho.1;omega⟩
    rw[hm] at ho
    have hob:=ho.1
    have h12:=h.pl.ok.k12
    have hoj:=ho.outJ h12
    rw[Int.toNat_natCast] at hoj
    obtain ⟨bg,hbg⟩:=hc.far (by omega)
    refine (chSet_far hc.md.inv hc.md.wi hp hc.md.fs hc.ch hc.nc hbg (by omega) hi (locS_set (h.pl.fi.fl n).2 (i-10) (v:=v) (by omega)) hm (by rw[hc.md.isl];omega) (by omega) hoj).mono ?_
    rintro e w' ⟨he,P',hi2,hch,hfa,hg,hnc⟩
    exact ⟨he,P',_,hi2,hc.md.wi,⟨rfl,rfl⟩,Chg.inner2 hc.cg hg fun k hk=>by rw[hk];exact hbg.2.1⟩
 have KA:Hid (∀ (V:World) (bc:Nat) (fv:Value),Chs w P V P d p X S N O kk F bf n i bc fv->Calls Tryz.prog 37 #[.pointer (some ⟨bc,0,none⟩),.int .i64 i] V fun e w'=>e=.returned (.int .i64 (locX (N.getD n []) (F n) i))/\V=w'):=Lib.hid fun V bc fv hc=>hc.at hi
 obtain ⟨y,hy⟩:∃ y,y=locX (N.getD n []) (F n) i:=⟨_,rfl⟩
 rw[<- hy] at KA hbz
 have e1:¬ v<1:=by omega
 have e2:¬ 768<=v:=by omega
 clear h hk h0 hy hp
 go_enter Tryz.func31,Tryz.ntmps31
 go_wp2_with (first
  |(go_at_call 36;refine K.out.mono ?_;rintro e w2 ⟨bc,rfl,fv,h2⟩)
  |(go_at_call 37;refine (KA.out _ _ _ h2).mono ?_;rintro e w' ⟨rfl,rfl⟩)
  |(go_at_call 41;refine (KS.out _ _ _ h2).mono ?_;rintro e w3 ⟨rfl,h3⟩))
 go_ret
 exact ⟨rfl,h3⟩
end
structure MapR (X:XSt) (S:List Int) (N:List (List Int)) (O:List (Int × Int)) (kk:Nat) (F:Nat->List Int) (n i:Nat) (Q:List Int) (v:Int) (X':XSt) (N':List (List Int)) (O':List (Int × Int)) (F':Nat->List Int):Prop where
 st:Stp S kk X.call N O F n X'.call N' O' F'
 v0:0<v
 loc:∀ b,b<138->locX (N'.getD n []) (F' n) b=if b=i then v else locX (N.getD n []) (F n) b
 mp:num (N'.getD n []) 13≠0 ↔ (num (N.getD n []) 13≠0\/10<=i)
 zer:X'.call.getD v.toNat []=z256
 on:Onw X X'
 pt:∃ R,R.length<=2/\(i<10->R=[v])/\PutS X' (Q ++ R)
 near:i<10->O'=O.set v.toNat (n,i)/\v=findS O (64*kk) (goalS (64*kk) (goalX (N.getD n []) (F n) i))
def needM (mp:Int) (i:Nat):Nat:=if 10<=i/\mp=0 then 2 else 1
section
variable {w:World}{P:Nat->Prop}{d p:Value}{X:XSt}{S:List Int}{N:List (List Int)}{O:List (Int × Int)}{kk:Nat}{F:Nat->List Int}{bf n i:Nat}{Q:List Int}
theorem findF (hO:OOk O kk) (g:Int) (hr:(cntU O (64*kk):Int)<62*(kk:Int)-42):∃ f:Nat,FreeB O kk f/\findS O (64*kk) (goalS (64*kk) g)=f:=by
 obtain ⟨f,f1,f2,f3,f4⟩:=find_free hO (m:=kk) (g:=goalS (64*kk) g) hO.k1 (Nat.le_refl _) (by unfold goalS;have:=hO.k1;split <;> omega) hr
 exact ⟨f,⟨f3,f4,f1⟩,f2⟩
theorem PutS.last {Q R:List Int} (h:PutS X (Q ++ R)) {X':XSt}{a:Int} (ha:a∈Q) (e:X'.put=addS X.put a):PutS X' (Q ++ R):=h.add (List.mem_append_left _ ha) e
theorem fmMap_near (h:Fmd w P d p X S N O kk F bf) (h1:1<=n) (h48:n<48) (hk:kindN N n≠0) (hi:i<10) (h0:locX (N.getD n []) (F n) i=0) (hq:PutS X Q) (hQ:Q.length<=34) (hB:Base Q S kk n (num (N.getD n []) 13)) (hr:(cntU O (64*kk):Int)<62*(kk:Int)-42):
 Calls Tryz.prog 15 #[.pointer (some ⟨bf,0,none⟩),.int .i64 n,.int .i64 i] w fun e w'=>∃ v P' X' N' O' F',e=.returned (.tuple #[.int .i64 v,.int .i64 0])/\Fmd w' P' d p X' S N' O' kk F' bf/\MapR X S N O kk F n i Q v X' N' O' F'/\Chg P P' w w':=by
 have hat:atX i=(i:Int):=by unfold atX;rw[if_neg (by omega)]
 obtain ⟨f,hf,hfs⟩:=findF h.pl.ok (goalX (N.getD n []) (F n) i) hr
 obtain ⟨hst,hfx,hz⟩:=h.pl.mapNear h1 h48 hk hi h0 hf
 have hn:n<N.length:=by rw[h.pl.tab.n.len];exact h48
 have hx:=h.pl.tab.n.get h48
 have hf0:=(open_ne hf.fx).1
 refine (fmMap_go (mp:=num (N.getD n []) 13) (g:=goalX (N.getD n []) (F n) i) (E:=0) (v:=(f:Int)) (R0:=fun bc V=>∃ fv,Chs w P V P d p X S N O kk F bf n i bc fv)
  (R2:=fun bc V=>PutS (takX X O f (n,i)) (Q ++ [(f:Int)])/\∃ fv P2,Chs w P V P2 d p (takX X O f (n,i)) S N (O.set f (n,i)) kk F bf n i bc fv)
  (R3:=fun w'=>PutS (takX X O f (n,i)) (Q ++ [(f:Int)])/\∃ bc fv P3,Chs w P w' P3 d p (putI (takX X O f (n,i)) S N n ((N.getD n []).set (3+i) f)) S (N.set n ((N.getD n []).set (3+i) f)) (O.set f (n,i)) kk F bf n i bc fv)
  (by omega) (Chs.open h h1 h48 hk (by omega)) ?_ ?_ ?_ ?_ ?_).mono ?_
 · rintro bc V ⟨fv,hc⟩;rw[<- h0];exact (hc.at (by omega))
 · rintro bc V ⟨fv,hc⟩;exact hc.ch.cm
 · rintro bc V ⟨fv,hc⟩;exact hc.goal h48 (by omega)
 · rintro bc V ⟨fv,hc⟩
   obtain ⟨f',hf',hfs',p2,hT⟩:=hc.take h1 h48 (goalX (N.getD n []) (F n) i) (a:=i) (by omega) hq (by omega) hB.g hr
   obtain rfl:f'=f:=by omega
   rw[hat] at p2 hT
   exact hT.mono fun e w' ⟨he,P',hc',_⟩=>⟨he,p2,fv,P',hc'⟩
 · rintro _ bc V ⟨p2,fv,P2,hc⟩
   have:=p2.le
   rw[List.length_append,List.length_singleton] at this
   exact (hc.near h1 h48 (by omega) hi hfx hst.pl).mono fun e w' ⟨he,P',hc'⟩=>⟨he,p2,bc,fv,P',hc'⟩
 · rintro e w' (⟨_,he,p2,bc,fv,P3,hc⟩| ⟨h,_⟩)
   · refine ⟨(f:Int),P3,_,_,_,_,he,hc.md,⟨hst,by omega,fun b hb=>?_,?_,by rw[Int.toNat_natCast];exact hz,⟨rfl,rfl⟩,⟨[(f:Int)],by simp,fun _=>rfl,p2.last hB.t rfl⟩,fun _=>⟨by rw[Int.toNat_natCast],hfs.symm⟩⟩,hc.cg⟩
     · rw[getD_n hn,if_pos rfl,locX_near hx hi]
     · rw[getD_n hn,if_pos rfl,num_set (by omega),if_neg (by omega)]
       exact ⟨.inl,fun h=>h.elim id fun h=>absurd h (by omega)⟩
   · exact absurd rfl h
theorem fmMap_far (h:Fmd w P d p X S N O kk F bf) (h1:1<=n) (h48:n<48) (hk:kindN N n≠0) (h10:10<=i) (hi:i<138) (h0:locX (N.getD n []) (F n) i=0) (hq:PutS X Q) (hQ:Q.length<=34) (hB:Base Q S kk n (num (N.getD n []) 13)) (hr:(cntU O (64*kk):Int)<62*(kk:Int)-42) (hm0:num (N.getD n []) 13≠0):
 Calls Tryz.prog 15 #[.pointer (some ⟨bf,0,none⟩),.int .i64 n,.int .i64 i] w fun e w'=>∃ v P' X' N' O' F',e=.returned (.tuple #[.int .i64 v,.int .i64 0])/\Fmd w' P' d p X' S N' O' kk F' bf/\MapR X S N O kk F n i Q v X' N' O' F'/\Chg P P' w w':=by
 have hat:atX i=(i:Int):=by unfold atX;rw[if_neg (by omega)]
 obtain ⟨f,hf,hfs⟩:=findF h.pl.ok (goalX (N.getD n []) (F n) i) hr
 have ho:=h.pl.fi.map h1 h48 id hm0
 obtain ⟨m,hm⟩:∃ m:Nat,num (N.getD n []) 13=(m:Int):=⟨(num (N.getD n []) 13).toNat,by have:=ho.1;omega⟩
 have hmz:m≠0:=by omega
 obtain ⟨hst,hL,hz⟩:=h.pl.mapFar h1 h48 h10 hi h0 hf hm hmz
 have hf0:=(open_ne hf.fx).1
 have hmQ:=hB.m hm0
 rw[hm] at hmQ
 refine (fmMap_go (mp:=num (N.getD n []) 13) (g:=goalX (N.getD n []) (F n) i) (E:=0) (v:=(f:Int)) (R0:=fun bc V=>∃ fv,Chs w P V P d p X S N O kk F bf n i bc fv)
  (R2:=fun bc V=>PutS (takX X O f (n,i)) (Q ++ [(f:Int)])/\∃ fv P2,Chs w P V P2 d p (takX X O f (n,i)) S N (O.set f (n,i)) kk F bf n i bc fv)
  (R3:=fun w'=>PutS (takX X O f (n,i)) (Q ++ [(f:Int)])/\∃ bc fv P3,Chs w P w' P3 d p (putB (takX X O f (n,i)) m (mapS ((F n).set (i-10) f))) S N (O.set f (n,i)) kk (setF F n ((F n).set (i-10) f)) bf n i bc fv)
  (fun e=>hm0 e.2) (Chs.open h h1 h48 hk hi) ?_ ?_ ?_ ?_ ?_).mono ?_
 · rintro bc V ⟨fv,hc⟩;rw[<- h0];exact (hc.at hi)
 · rintro bc V ⟨fv,hc⟩;exact hc.ch.cm
 · rintro bc V ⟨fv,hc⟩;exact hc.goal h48 hi
 · rintro bc V ⟨fv,hc⟩
   obtain ⟨f',hf',hfs',p2,hT⟩:=hc.take h1 h48 (goalX (N.getD n []) (F n) i) (a:=i) (by omega) hq (by omega) hB.g hr
   obtain rfl:f'=f:=by omega
   rw[hat] at p2 hT
   exact hT.mono fun e w' ⟨he,P',hc',_⟩=>⟨he,p2,fv,P',hc'⟩
 · rintro _ bc V ⟨p2,fv,P2,hc⟩
   have:=p2.le
   rw[List.length_append,List.length_singleton] at this
   exact (hc.setFar h1 h48 (by omega) h10 hi (hc.far h10) hL hm hmz hst.pl).mono fun e w' ⟨he,P',hc'⟩=>⟨he,p2,bc,fv,P',hc'⟩
 · rintro e w' (⟨_,he,p2,bc,fv,P3,hc⟩| ⟨h,_⟩)
   · refine ⟨(f:Int),P3,_,_,_,_,he,hc.md,⟨hst,by omega,fun b hb=>?_,⟨.inl,fun _=>hm0⟩,by rw[Int.toNat_natCast];exact hz,⟨rfl,rfl⟩,⟨[(f:Int)],by simp,fun _=>rfl,p2.last hmQ rfl⟩,fun h=>absurd h (by omega)⟩,hc.cg⟩
     rw[setF_at,locX_far (h.pl.fi.fl n).1 h10 hi]
   · exact absurd rfl h
theorem Chs.mapFar {w0:World}{P0:Nat->Prop}{bc:Nat}{fv:Value}{f m:Nat} (hc:Chs w0 P0 w P d p (takX X O f (n,i)) S N (O.set f (n,i)) kk F bf n i bc fv) (h1:1<=n) (h48:n<48) (h10:10<=i) (hi:i<138) (hp:(takX X O f (n,i)).put.length<37) (hL:locS ((F n).set (i-10) f)=true) (hm:num (N.getD n []) 13=(m:Int)) (hmz:m≠0)
 (hpl:Pl noEx ((takG X.call O f (n,i)).set m (mapS ((F n).set (i-10) f))) S N (O.set f (n,i)) kk (setF F n ((F n).set (i-10) f))):
 Calls Tryz.prog 41 #[.pointer (some ⟨bc,0,none⟩),.int .i64 i,.int .i64 f] w fun e w'=>e=.returned (.int .i64 0)/\∃ P',Chs w0 P0 w' P' d p (putB (takX X O f (n,i)) m (mapS ((F n).set (i-10) f))) S N (O.set f (n,i)) kk (setF F n ((F n).set (i-10) f)) bf n i bc fv:=
 hc.setFar h1 h48 hp h10 hi (hc.far h10) hL hm hmz hpl
theorem fmMap_both (h:Fmd w P d p X S N O kk F bf) (h1:1<=n) (h48:n<48) (hk:kindN N n≠0) (h10:10<=i) (hi:i<138) (h0:locX (N.getD n []) (F n) i=0) (hq:PutS X Q) (hQ:Q.length<=34) (hB:Base Q S kk n (num (N.getD n []) 13)) (hr:(cntU O (64*kk):Int)+1<62*(kk:Int)-42) (hm0:num (N.getD n []) 13=0):
 Calls Tryz.prog 15 #[.pointer (some ⟨bf,0,none⟩),.int .i64 n,.int .i64 i] w fun e w'=>∃ v P' X' N' O' F',e=.returned (.tuple #[.int .i64 v,.int .i64 0])/\Fmd w' P' d p X' S N' O' kk F' bf/\MapR X S N O kk F n i Q v X' N' O' F'/\Chg P P' w w':=by
 have hat:atX i=(i:Int):=by unfold atX;rw[if_neg (by omega)]
 obtain ⟨m,hm,hms⟩:=findF h.pl.ok 0 (by omega)
 obtain ⟨hst1,hfx⟩:=h.pl.addMap h1 h48 hk hm0 hm
 have hmz:=(open_ne hm.fx).1
 have hn:n<N.length:=by rw[h.pl.tab.n.len];exact h48
 have hx:=h.pl.tab.n.get h48
 obtain ⟨N1,hN1⟩:∃ N1,N1=N.set n ((N.getD n []).set 13 (m:Int)):=⟨_,rfl⟩
 obtain ⟨X1,hX1⟩:∃ X1,X1=putI (takX X O m (n,65535)) S N n ((N.getD n []).set 13 m):=⟨_,rfl⟩
 obtain ⟨O1,hO1⟩:∃ O1,O1=O.set m ((n:Int),(65535:Int)):=⟨_,rfl⟩
 have hy:N1.getD n []=(N.getD n []).set 13 (m:Int):=by rw[hN1,getD_n hn,if_pos rfl]
 have hst:Stp S kk X.call N O F n X1.call N1 O1 F:=by rw[hX1,hN1,hO1];exact hst1
 have hm13:num (N1.getD n []) 13=(m:Int):=by rw[hy,num_set (by omega),if_pos rfl]
 have hloc1:∀ b,b<138->locX (N1.getD n []) (F n) b=locX (N.getD n []) (F n) b:=fun b hb=>by rw[hy,locX_map' hx,if_neg (by omega)]
 have hc1:cntU O1 (64*kk)=cntU O (64*kk)+1:=by
  rw[hO1];exact cntU_set (by rw[h.pl.ok.len];exact hm.lt) hm.fr hm.fx (by omega) _ hm.lt
 obtain ⟨f,hf,hfs⟩:=findF hst.pl.ok (goalX (N1.getD n []) (F n) i) (by rw[hc1];push_cast;omega)
 have h01:locX (N1.getD n []) (F n) i=0:=by rw[hloc1 i hi];exact h0
 obtain ⟨hst2,hL,hz⟩:=hst.pl.mapFar h1 h48 h10 hi h01 hf hm13 hmz
 have hf0:=(open_ne hf.fx).1
 refine (fmMap_add (g:=goalX (N1.getD n []) (F n) i) (M:=0) (E:=0) (v:=(f:Int)) (R0:=fun bc V=>∃ fv,Chs w P V P d p X S N O kk F bf n i bc fv)
  (R1:=fun bc V=>PutS (takX X O m (n,65535)) (Q ++ [(m:Int)])/\∃ fv P1,Chs w P V P1 d p X1 S N1 O1 kk F bf n i bc fv)
  (R2:=fun bc V=>PutS (takX X1 O1 f (n,i)) (Q ++ [(m:Int)] ++ [(f:Int)])/\∃ fv P2,Chs w P V P2 d p (takX X1 O1 f (n,i)) S N1 (O1.set f (n,i)) kk F bf n i bc fv)
  (R3:=fun w'=>PutS (takX X1 O1 f (n,i)) (Q ++ [(m:Int)] ++ [(f:Int)])/\∃ bc fv P3,Chs w P w' P3 d p (putB (takX X1 O1 f (n,i)) m (mapS ((F n).set (i-10) f))) S N1 (O1.set f (n,i)) kk (setF F n ((F n).set (i-10) f)) bf n i bc fv)
  (by omega) (Chs.open h h1 h48 hk hi) ?_ ?_ ?_ ?_ ?_ ?_).mono ?_
 · rintro bc V ⟨fv,hc⟩;rw[<- h0];exact (hc.at hi)
 · rintro bc V ⟨fv,hc⟩;rw[<- hm0];exact hc.ch.cm
 · rintro bc V ⟨fv,hc⟩
   obtain ⟨m',hm',hms',p2,hT⟩:=hc.addMap h1 h48 hk hm0 hq (by omega) hB.g (by omega)
   obtain rfl:m'=m:=by omega
   rw[<- hX1,<- hN1,<- hO1] at hT
   exact hT.mono fun e w' ⟨he,P',hc'⟩=>⟨he,p2,fv,P',hc'⟩
 · rintro _ bc V ⟨p2,fv,P1,hc⟩;exact hc.goal h48 hi
 · rintro _ bc V ⟨p2,fv,P1,hc⟩
   have p3:PutS X1 (Q ++ [(m:Int)]):=p2.last hB.t (by rw[hX1];rfl)
   obtain ⟨f',hf',hfs',p4,hT⟩:=hc.take h1 h48 (goalX (N1.getD n []) (F n) i) (a:=i) (by omega) p3 (by rw[List.length_append,List.length_singleton];omega) (fun g hg=>⟨List.mem_append_left _ (hB.g g hg).1,List.mem_append_left _ (hB.g g hg).2⟩) (by rw[hc1];push_cast;omega)
   obtain rfl:f'=f:=by omega
   rw[hat] at p4 hT
   exact hT.mono fun e w' ⟨he,P',hc',_⟩=>⟨he,p4,fv,P',hc'⟩
 · rintro _ _ bc V ⟨p2,fv,P2,hc⟩
   have:=p2.le
   rw[List.length_append,List.length_append,List.length_singleton,List.length_singleton] at this
   exact (hc.mapFar h1 h48 h10 hi (by omega) hL hm13 hmz hst2.pl).mono fun e w' ⟨he,P',hc'⟩=>⟨he,p2,bc,fv,P',hc'⟩
 · rintro e w' (⟨h,_⟩| ⟨_,_,he,p2,bc,fv,P3,hc⟩| ⟨_,h,_⟩)
   · exact absurd rfl h
   · have hx1:Onw X X1:=by rw[hX1];exact ⟨rfl,rfl⟩
     refine ⟨(f:Int),P3,_,_,_,_,he,hc.md,⟨hst.trans hst2,by omega,fun b hb=>?_,?_,by rw[Int.toNat_natCast];exact hz,hx1.trans ⟨rfl,rfl⟩,⟨[(m:Int),(f:Int)],by simp,fun h=>absurd h (by omega),?_⟩,fun h=>absurd h (by omega)⟩,hc.cg⟩
     · rw[setF_at,locX_far (h.pl.fi.fl n).1 h10 hi,hloc1 b hb]
     · rw[hm13];exact ⟨fun _=>.inr h10,fun _=>by omega⟩
     · rw[List.append_assoc] at p2
       exact p2.add (List.mem_append_right _ (List.mem_cons_self)) rfl
   · exact absurd rfl h
theorem fmMap_full (h:Fmd w P d p X S N O kk F bf) (h1:1<=n) (h48:n<48) (hk:kindN N n≠0) (hi:i<138) (h0:locX (N.getD n []) (F n) i=0) (hq:PutS X Q) (hQ:Q.length<=34) (hB:Base Q S kk n (num (N.getD n []) 13)) (hr:62*(kk:Int)-42<(cntU O (64*kk):Int)+(needM (num (N.getD n []) 13) i:Int)):
 Calls Tryz.prog 15 #[.pointer (some ⟨bf,0,none⟩),.int .i64 n,.int .i64 i] w fun e w'=>e=.returned (.tuple #[.int .i64 0,.int .i64 13])/\∃ P' X' N' O',Fmd w' P' d p X' S N' O' kk F bf/\Onw X X'/\Chg P P' w w':=by
 have hat:atX i=(i:Int):=by unfold atX;rw[if_neg (by omega)]
 by_cases hc:10<=i/\num (N.getD n []) 13=0
 · obtain ⟨h10,hm0⟩:=hc
   have e2:needM (num (N.getD n []) 13) i=2:=if_pos ⟨h10,hm0⟩
   rw[e2] at hr
   by_cases hr1:(cntU O (64*kk):Int)<62*(kk:Int)-42
   · obtain ⟨m,hm,hms⟩:=findF h.pl.ok 0 hr1
     have hn:n<N.length:=by rw[h.pl.tab.n.len];exact h48
     have hx:=h.pl.tab.n.get h48
     have hmz:=(open_ne hm.fx).1
     have hc1:cntU (O.set m ((n:Int),(65535:Int))) (64*kk)=cntU O (64*kk)+1:=cntU_set (by rw[h.pl.ok.len];exact hm.lt) hm.fr hm.fx (by omega) _ hm.lt
     obtain ⟨N1,hN1⟩:∃ N1,N1=N.set n ((N.getD n []).set 13 (m:Int)):=⟨_,rfl⟩
     obtain ⟨X1,hX1⟩:∃ X1,X1=putI (takX X O m (n,65535)) S N n ((N.getD n []).set 13 m):=⟨_,rfl⟩
     obtain ⟨O1,hO1⟩:∃ O1,O1=O.set m ((n:Int),(65535:Int)):=⟨_,rfl⟩
     rw[<- hO1] at hc1
     refine (fmMap_add (g:=goalX (N1.getD n []) (F n) i) (M:=0) (E:=13) (v:=0) (R0:=fun bc V=>∃ fv,Chs w P V P d p X S N O kk F bf n i bc fv)
      (R1:=fun bc V=>∃ fv P1,Chs w P V P1 d p X1 S N1 O1 kk F bf n i bc fv)
      (R2:=fun bc V=>∃ fv P2,Chs w P V P2 d p X1 S N1 O1 kk F bf n i bc fv) (R3:=fun _=>False)
      (by omega) (Chs.open h h1 h48 hk hi) ?_ ?_ ?_ ?_ ?_ ?_).mono ?_
     · rintro bc V ⟨fv,hc⟩;rw[<- h0];exact (hc.at hi)
     · rintro bc V ⟨fv,hc⟩;rw[<- hm0];exact hc.ch.cm
     · rintro bc V ⟨fv,hc⟩
       obtain ⟨m',hm',hms',p2,hT⟩:=hc.addMap h1 h48 hk hm0 hq (by omega) hB.g hr1
       obtain rfl:m'=m:=by omega
       rw[<- hX1,<- hN1,<- hO1] at hT
       exact hT.mono fun e w' ⟨he,P',hc'⟩=>⟨he,fv,P',hc'⟩
     · rintro _ bc V ⟨fv,P1,hc⟩;exact hc.goal h48 hi
     · rintro _ bc V ⟨fv,P1,hc⟩
       have:=hc.full h1 h48 (goalX (N1.getD n []) (F n) i) (a:=i) (by omega) (by rw[hc1];push_cast;omega)
       rw[hat] at this
       exact this.mono fun e w' ⟨he,hb⟩=>⟨he,fv,P1,hc.low hb⟩
     · intro _ h;cases h
     · rintro e w' (⟨h,_⟩| ⟨_,_,_,h⟩| ⟨_,_,he,bc,fv,P2,hc⟩)
       · exact absurd rfl h
       · exact h.elim
       · exact ⟨he,P2,X1,N1,O1,hc.md,by rw[hX1];exact ⟨rfl,rfl⟩,hc.cg⟩
   · refine (fmMap_add (g:=0) (M:=13) (E:=13) (v:=0) (R0:=fun bc V=>∃ fv,Chs w P V P d p X S N O kk F bf n i bc fv)
      (R1:=fun bc V=>∃ fv,Chs w P V P d p X S N O kk F bf n i bc fv)
      (R2:=fun bc V=>False) (R3:=fun _=>False)
      (by omega) (Chs.open h h1 h48 hk hi) ?_ ?_ ?_ ?_ ?_ ?_).mono ?_
     · rintro bc V ⟨fv,hc⟩;rw[<- h0];exact (hc.at hi)
     · rintro bc V ⟨fv,hc⟩;rw[<- hm0];exact hc.ch.cm
     · rintro bc V ⟨fv,hc⟩
       have:=hc.full h1 h48 0 (a:=138) (by omega) (by omega)
       rw[show atX 138=65535 from rfl] at this
       exact (chAddMap_full this).mono fun e w' ⟨he,hb⟩=>⟨he,fv,hc.low hb⟩
     · intro h;cases h
     · intro h;cases h
     · intro h;cases h
     · rintro e w' (⟨_,he,bc,fv,hc⟩| ⟨h,_⟩| ⟨h,_⟩)
       · exact ⟨he,P,X,N,O,hc.md,Onw.refl X,hc.cg⟩
       · cases h
       · cases h
 · have e1:needM (num (N.getD n []) 13) i=1:=if_neg hc
   rw[e1] at hr
   refine (fmMap_go (mp:=num (N.getD n []) 13) (g:=goalX (N.getD n []) (F n) i) (E:=13) (v:=0) (R0:=fun bc V=>∃ fv,Chs w P V P d p X S N O kk F bf n i bc fv)
    (R2:=fun bc V=>∃ fv,Chs w P V P d p X S N O kk F bf n i bc fv) (R3:=fun _=>False)
    (fun e=>hc ⟨by omega,e.2⟩) (Chs.open h h1 h48 hk hi) ?_ ?_ ?_ ?_ ?_).mono ?_
   · rintro bc V ⟨fv,hc⟩;rw[<- h0];exact (hc.at hi)
   · rintro bc V ⟨fv,hc⟩;exact hc.ch.cm
   · rintro bc V ⟨fv,hc⟩;exact hc.goal h48 hi
   · rintro bc V ⟨fv,hc⟩
     have:=hc.full h1 h48 (goalX (N.getD n []) (F n) i) (a:=i) (by omega) (by omega)
     rw[hat] at this
     exact this.mono fun e w' ⟨he,hb⟩=>⟨he,fv,hc.low hb⟩
   · intro h;cases h
   · rintro e w' (⟨h,_⟩| ⟨_,he,bc,fv,hc⟩)
     · cases h
     · exact ⟨he,P,X,N,O,hc.md,Onw.refl X,hc.cg⟩
theorem fmMap_new (h:Fmd w P d p X S N O kk F bf) (h1:1<=n) (h48:n<48) (hk:kindN N n≠0) (hi:i<138) (h0:locX (N.getD n []) (F n) i=0) (hq:PutS X Q) (hQ:Q.length<=34) (hB:Base Q S kk n (num (N.getD n []) 13)) (hr:(cntU O (64*kk):Int)+(needM (num (N.getD n []) 13) i:Int)<=62*(kk:Int)-42):
 Calls Tryz.prog 15 #[.pointer (some ⟨bf,0,none⟩),.int .i64 n,.int .i64 i] w fun e w'=>∃ v P' X' N' O' F',e=.returned (.tuple #[.int .i64 v,.int .i64 0])/\Fmd w' P' d p X' S N' O' kk F' bf/\MapR X S N O kk F n i Q v X' N' O' F'/\Chg P P' w w':=by
 unfold needM at hr
 by_cases h10:i<10
 · rw[if_neg (by omega)] at hr
   exact fmMap_near h h1 h48 hk h10 h0 hq hQ hB (by omega)
 · by_cases hm:num (N.getD n []) 13=0
   · rw[if_pos ⟨by omega,hm⟩] at hr
     exact fmMap_both h h1 h48 hk (by omega) hi h0 hq hQ hB (by omega) hm
   · rw[if_neg (fun e=>hm e.2)] at hr
     exact fmMap_far h h1 h48 hk (by omega) hi h0 hq hQ hB (by omega) hm
theorem fmMap_old (h:Fmd w P d p X S N O kk F bf) (h1:1<=n) (h48:n<48) (hk:kindN N n≠0) (hi:i<138) (h0:locX (N.getD n []) (F n) i≠0):
 Calls Tryz.prog 15 #[.pointer (some ⟨bf,0,none⟩),.int .i64 n,.int .i64 i] w fun e w'=>e=.returned (.tuple #[.int .i64 (locX (N.getD n []) (F n) i),.int .i64 0])/\Fmd w' P d p X S N O kk F bf/\Chg P P w w':=by
 refine (fmMap_was h0 (R0:=fun bc V=>∃ fv,Chs w P V P d p X S N O kk F bf n i bc fv) (Chs.open h h1 h48 hk hi) ?_).mono ?_
 · rintro bc V ⟨fv,hc⟩;exact hc.at hi
 · rintro e w' ⟨he,bc,fv,hc⟩;exact ⟨he,hc.md,hc.cg⟩
end
end Go.Proofs.YtaakepjgpnaecaaGreat
namespace Go.Proofs.YtaakepjgpnaecaaGreat
set_option maxRecDepth 100000
open Go.RowKit
theorem zeroCells_int (m:Nat):Builtin.zeroCells (Value.int .i64 0).cells m=Array.replicate m (.int .i64 0):=by
 apply Array.ext
 · simp[Builtin.zeroCells,Value.cells]
 · intro j h1 h2
   simp[Builtin.zeroCells,Value.cells,Nat.mod_one]
theorem run_append_make (w:World) (ty:TypeId) (m:Nat) (h0:0<m) (hm:m<=1000000):
 ∃ cap w',(Builtin.append_ #[78,3] ty #[.slice none 0 0,.int .i64 m]).run Tryz.prog w=.ok (.slice (some ⟨w.heap.size,0,none⟩) m cap) w'/\Below w.heap.size w w'/\m<=cap/\cap<=maxLen/\∃ cur,w'.heap[w.heap.size]? =some (.cells cur 3 (0,0))/\cur.size=cap:=by
 obtain ⟨i,h2,h3,h4,h5⟩:=info_parts infoI64
 have hm1:IntKind.i64.wrap (m:Int)=m:=by rw[IntKind.wrap_i64];omega
 have hm2:¬ (m:Int)<0:=by omega
 have hm3:¬ 281474976710656<(m:Int):=by omega
 have hmz:m≠0:=by omega
 have h48:¬ (281474976710656<Builtin.nextslicecap m 0*8):=by rw[nextslicecap_zero (by omega)];omega
 have hc1:¬ 9223372036854775807<(m:Int):=by omega
 have hge:=grownCap_ge w m 0 3
 have hcm:grownCap w m 0 3<=maxLen:=grownCap_le_maxLen w m 0 3 (by simp only[maxLen];omega)
 refine ⟨grownCap w m 0 3,w.drew.alloc (.cells (#[] ++ Array.replicate m (.int .i64 0) ++ Array.replicate (grownCap w m 0 3-m) (.int .i64 0)) 3),?_,⟨rfl,rfl,rfl,by simp,fun k hk=>@Go.heap_alloc_old w.drew _ _ hk⟩,hge,hcm,_,heap_alloc_new w.drew _,?_⟩
 · simp[Builtin.append_,run_underlying Tryz.underlying78,run_underlying Tryz.underlying3,sizeOf,typeInfo,zeroValue,h2,h3,h4,h5,asInt,asIntOf,hm1,hm2,hm3,hmz,hc1,h48,Question.forced,run_firstCells_none,newRow,grownCap]
   simp[zeroCells_int]
   intro h;omega
 · simp;omega
theorem wpList_append_make (w:World) {ops:Array Oper}{rest:List Oper}{o:Oper}{a:Act}{Q:Exit->Act->World->Prop} (hgd:o.guard=none) (s x:Operand)
 (ho:o.op=.call { callee:=.builtin .append,args:=#[s,x],argTypes:=#[78,3] }) (hs:a.eval s=.slice none 0 0) (C:Int) (m:Nat) (hx:a.eval x=.int .i64 C) (hC:C=m) (h0:0<m) (hm:m<=1000000)
 (h:∀ cap w',Below w.heap.size w w'->m<=cap->cap<=maxLen->(∃ cur,w'.heap[w.heap.size]? =some (.cells cur 3 (0,0))/\cur.size=cap)->wpList Tryz.prog ops Q rest (a.put o.dst (.slice (some ⟨w.heap.size,0,none⟩) m cap)) w'):wpList Tryz.prog ops Q (o :: rest) a w:=by
 subst hC
 obtain ⟨cap,w',hr,h1,h2,h3,h4⟩:=run_append_make w o.type m h0 hm
 refine wpList_plain hgd fun K hK=>?_
 unfold Oper.wp execOp
 simp only[ho,resolve,invoke,builtin,Sem.run_bind,Sem.run_pure,Result.andThen_ok,List.map_toArray,List.map_cons,List.map_nil,hs,hx,hr]
 exact hK _ _ (h cap w' h1 h2 h3 h4)
theorem iC_append (l m:List Int):iC (l ++ m)=iC l ++ iC m:=by simp[iC]
theorem wpList_append_ints (w:World) {ops:Array Oper}{rest:List Oper}{o:Oper}{a:Act}{Q:Exit->Act->World->Prop} (hgd:o.guard=none) (s x:Operand)
 (ho:o.op=.call { callee:=.builtin .append,args:=#[s,x],argTypes:=#[78,78] })
 (B:Nat) (v:Value) (l:List Int) (hs:a.eval s=v) (hown:IR w B v l) (u:Value) (m:List Int) (hx:a.eval x=u) (hr:ISl w u m) (hlen:l.length+m.length<=1000000) (hB:B<=w.heap.size)
 (h:∀ v' w',IR w' B v' (l ++ m)->Below B w w'->wpList Tryz.prog ops Q rest (a.put o.dst v') w'):wpList Tryz.prog ops Q (o :: rest) a w:=by
 obtain ⟨t,h2,h3,h4,h5⟩:=info_parts infoI64
 rcases hr with ⟨rfl,rfl⟩| ⟨ad,cap,rfl,hc⟩
 · refine wpList_append_own_none hgd s x 78 ho B 3 t 1 Tryz.underlying78 h2 v l.length _ hs hown hx ?_
   exact h v w (by simpa using hown) (Below.refl _ _)
 · refine wpList_append_own w hgd s x 78 ho B 3 t _ 1 8 Tryz.underlying78 h2 h3 h4 h5 rfl (by decide) v l.length _ hs hown ad m.length cap (iC m) hx (by simp[iC]) ?_ (iC_one m) (by simp only[maxLen];omega) (by omega) hB fun v' w' h6 h7 _=>?_
   · intro j y hj
     have hjl:j<m.length:=by have:=(List.getElem?_eq_some_iff.1 hj).1;rwa [iC_length] at this
     obtain ⟨_,e2,e3⟩:=hc j hjl
     obtain ⟨b,off,sp⟩:=ad
     obtain rfl:sp=none:=e2
     rw[Addr.add_lit,e3,<- hj]
     simp[iC,List.getD_eq_getElem?_getD,hjl]
   · refine h v' w' ?_ ((Below.refl _ _).grown h7 hB fun k hk=>(World.ownsRow.lt hown k hk).1)
     show w'.ownsRow B 3 1 v' (l ++ m).length (iC (l ++ m))
     rw[iC_append,List.length_append];exact h6
theorem slGrow_nil (m:Nat) (h0:0<m) (hm:m<=1000000) (w:World):Calls Tryz.prog 115 #[.slice none 0 0,.int .i64 m] w fun e w'=>∃ v,e=.returned v/\IR w' w.heap.size v []/\Below w.heap.size w w':=by
 have e1:¬ (m:Int)<0:=by omega
 have e2:(0:Int)<(m:Int):=by omega
 go_enter Tryz.func115,Tryz.ntmps115
 go_wp2_with (refine wpList_append_make _ rfl _ _ rfl rfl _ m rfl rfl h0 hm ?_;intro cap w2 hb2 hcap hcm hrow)
 go_ret
 obtain ⟨cur,hr,hs⟩:=hrow
 refine ⟨_,rfl,⟨rfl,.inr ⟨w.heap.size,cap,cur,rfl,Nat.le_refl _,hr,Nat.zero_le _,hcm,by omega,by simp[iC]⟩⟩,hb2⟩
theorem slConcat_of {w:World}{g:Nat}{u v:Value}{A B:List Int} (hr:w.heap[g]? =some (.cells #[u,v] 78 (0,0))) (hu:ISl w u A) (hv:ISl w v B) (hA:A.length<=1000) (hB:B.length<=1000) (h0:0<A.length):
 Calls Tryz.prog 72 #[.slice (some ⟨g,0,none⟩) 2 2] w fun e w'=>∃ r,e=.returned r/\IR w' w.heap.size r (A ++ B)/\Below w.heap.size w w':=by
 obtain ⟨ua,uc,rfl,hu2⟩:=hu.open'
 obtain ⟨va,vc,rfl,hv2⟩:=hv.open'
 have c0:w.cell? ⟨g,0,none⟩=some (.slice ua A.length uc):=by rw[cell_of_row _ _ _ _ _ _ hr];rfl
 have c1:w.cell? ⟨g,1,none⟩=some (.slice va B.length vc):=by rw[cell_of_row _ _ _ _ _ _ hr];rfl
 have hg:=(Array.getElem?_eq_some_iff.1 hr).1
 have KG:=Lib.hid (slGrow_nil (A.length+B.length) (by omega) (by omega) w)
 have HC:Hid (∀ V,Below w.heap.size w V->V.cell? ⟨g,0,none⟩=some (.slice ua A.length uc)/\V.cell? ⟨g,1,none⟩=some (.slice va B.length vc)):=Lib.hid fun V hb=>⟨(hb.cell (p:=⟨g,0,none⟩) hg).trans c0,(hb.cell (p:=⟨g,1,none⟩) hg).trans c1⟩
 have HU:Hid (∀ V,Below w.heap.size w V->ISl V (.slice ua A.length uc) A):=Lib.hid fun V hb=>hu.below hb
 have HV:Hid (∀ V,Below w.heap.size w V->ISl V (.slice va B.length vc) B):=Lib.hid fun V hb=>hv.below hb
 have HA:=Lib.hid hA
 have HB:=Lib.hid hB
 obtain ⟨a,ha⟩:∃ a,a=A.length:=⟨_,rfl⟩
 obtain ⟨b,hb⟩:∃ b,b=B.length:=⟨_,rfl⟩
 have HAL:=Lib.hid ha
 have HBL:=Lib.hid hb
 rw[<- ha] at KG HC HU c0 hA
 rw[<- hb] at KG HC HV c1 hB
 have HT:Hid ((((a+b:Nat):Nat):Int)=(a:Int)+(b:Int)):=Lib.hid (by omega)
 rw[HT.out] at KG
 clear hr hu hv hu2 hv2 h0 hg ha hb
 go_enter Tryz.func72,Tryz.ntmps72
 go_wp2
 go_loopw [3,11] (fun sz i wr=>w=wr/\((i=.int .i64 0/\sz=.int .i64 0)\/(i=.int .i64 1/\sz=.int .i64 a)\/(i=.int .i64 2/\sz=.int .i64 ((a:Int)+b)))) (fun _ i _=>2-(intOf i).toNat)
 case atStart=>exact ⟨rfl,.inl ⟨rfl,rfl⟩⟩
 case round=>
  obtain ⟨rfl,⟨rfl,rfl⟩| ⟨rfl,rfl⟩| ⟨rfl,rfl⟩⟩:=hrel
  · go_wp2
    go_roundw
    case rel=>exact ⟨by trivial,.inr (.inl ⟨rfl,by go_num⟩)⟩
    case measure=>simp[intOf]
  · go_wp2
    go_roundw
    case rel=>exact ⟨by trivial,.inr (.inr ⟨rfl,by go_num⟩)⟩
    case measure=>simp[intOf]
  · go_wp2_with (go_at_call 115;refine KG.out.mono ?_;rintro e w2 ⟨r0,rfl,hr0,hb2⟩)
    have HR0:=Lib.hid hr0
    have HB2:=Lib.hid hb2
    clear hr0 hb2 c0 c1
    go_loopw [6,27] (fun r i wr=>Hid (Below w.heap.size w wr)/\((i=.int .i64 0/\IR wr w.heap.size r [])\/(i=.int .i64 1/\IR wr w.heap.size r A)\/(i=.int .i64 2/\IR wr w.heap.size r (A ++ B)))) (fun _ i _=>2-(intOf i).toNat)
    case atStart=>exact ⟨HB2,.inl ⟨rfl,HR0.out⟩⟩
    case round=>
     obtain ⟨HW,⟨rfl,hir⟩| ⟨rfl,hir⟩| ⟨rfl,hir⟩⟩:=hrel
     · obtain ⟨c0,c1⟩:=HC.out _ HW.out
       have HIR:=Lib.hid hir
       clear hir
       go_wp2_with (refine wpList_append_ints _ rfl _ _ rfl w.heap.size _ [] rfl HIR.out _ A rfl (HU.out _ HW.out) (by simp;have:=HA.out;omega) HW.out.size ?_;intro r3 w3 hr3 hb3)
       go_roundw
       case rel=>exact ⟨Lib.hid (HW.out.trans hb3),.inr (.inl ⟨rfl,by simpa using hr3⟩)⟩
       case measure=>simp[intOf]
     · obtain ⟨c0,c1⟩:=HC.out _ HW.out
       have HIR:=Lib.hid hir
       clear hir
       go_wp2_with (refine wpList_append_ints _ rfl _ _ rfl w.heap.size _ A rfl HIR.out _ B rfl (HV.out _ HW.out) (by have:=HA.out;have:=HB.out;omega) HW.out.size ?_;intro r3 w3 hr3 hb3)
       go_roundw
       case rel=>exact ⟨Lib.hid (HW.out.trans hb3),.inr (.inr ⟨rfl,hr3⟩)⟩
       case measure=>simp[intOf]
     · go_wp2
       go_ret
       exact ⟨_,rfl,hir,HW.out⟩
end Go.Proofs.YtaakepjgpnaecaaGreat
namespace Go.Proofs.YtaakepjgpnaecaaGreat
set_option maxRecDepth 100000
open Go.RowKit BM
def allX (x F:List Int):List Int:=(x.drop 3).take 10 ++ F
theorem allX_len {x F:List Int} (hx:x.length=14) (hF:F.length=128):(allX x F).length=138:=by unfold allX;rw[List.length_append,List.length_take,List.length_drop];omega
theorem allX_get {x F:List Int} (hx:x.length=14) (hF:F.length=128) {i:Nat} (hi:i<138):(allX x F).getD i 0=locX x F i:=by
 unfold allX locX
 rw[List.getD_eq_getElem?_getD]
 by_cases h:i<10
 · rw[if_pos h,List.getElem?_append_left (by rw[List.length_take,List.length_drop];omega),List.getElem?_take,if_pos h,List.getElem?_drop];rfl
 · rw[if_neg h,if_neg (by omega),List.getElem?_append_right (by rw[List.length_take,List.length_drop];omega),List.length_take,List.length_drop]
   unfold num
   rw[List.getD_eq_getElem?_getD,show min 10 (x.length-3)=10 by omega]
def lastX (L:List Int):Nat->Nat
 |0=>0
 |k+1=>if L.getD k 0=0 then lastX L k else k+1
theorem lastX_le (L:List Int):∀ k,lastX L k<=k
 |0=>Nat.le_refl _
 |k+1=>by
  unfold lastX
  split
  · exact Nat.le_succ_of_le (lastX_le L k)
  · exact Nat.le_refl _
theorem lastX_zero (L:List Int):∀ k j,lastX L k<=j->j<k->L.getD j 0=0
 |0,j,_,h=>absurd h (Nat.not_lt_zero _)
 |k+1,j,h1,h2=>by
  unfold lastX at h1
  split at h1
  · next e=>
    by_cases ej:j=k
    · rw[ej];exact e
    · exact lastX_zero L k j h1 (by omega)
  · omega
def pieX (L:List Int):Nat->Nat
 |0=>0
 |k+1=>pieX L k+if L.getD k 0≠0/\((if k=0 then 0 else L.getD (k-1) 0)=0\/L.getD k 0≠(if k=0 then 0 else L.getD (k-1) 0)+1) then 1 else 0
theorem pieX_le (L:List Int):∀ k,pieX L k<=k
 |0=>Nat.le_refl _
 |k+1=>by
  unfold pieX
  have h1:=pieX_le L k
  have h2:∀ (c:Prop) [Decidable c],(if c then 1 else 0:Nat)<=1:=fun c _=>by split <;> omega
  exact Nat.add_le_add h1 (h2 _)
theorem pieX_last (L:List Int):∀ k,pieX L k=pieX L (lastX L k)
 |0=>rfl
 |k+1=>by
  unfold lastX
  split
  · next e=>rw[<- pieX_last L k,pieX,if_neg (fun h=>h.1 e)];rfl
  · rfl
section
variable {w:World}{P:Nat->Prop}{d p:Value}{X:XSt}{S:List Int}{N:List (List Int)}{O:List (Int × Int)}{kk:Nat}{F:Nat->List Int}{bf:Nat}
structure Frd (w:World) (P:Nat->Prop) (d p:Value) (X:XSt) (S:List Int) (N:List (List Int)) (O:List (Int × Int)) (kk:Nat) (F:Nat->List Int) (bf:Nat):Prop where
 inv:SInv w P d p X
 fs:FsAt w bf p
 tab:Tab X.cur S N
 fi:Fils noEx X.cur S N O kk F
 k12:kk<=12
 len:X.cur.length=64*kk
theorem fmAt_of (h:Frd w P d p X S N O kk F bf) {n i:Nat} (h1:1<=n) (h48:n<48) (hk:kindN N n≠0) (hi:i<138):
 Calls Tryz.prog 34 #[.pointer (some ⟨bf,0,none⟩),.int .i64 n,.int .i64 i] w fun e w'=>e=.returned (.tuple #[.int .i64 (locX (N.getD n []) (F n) i),.int .i64 0])/\Below w.heap.size w w':=by
 have KO:=Lib.hid (fmOpenAt_yes h.inv h.fs h.tab h.fi h.k12 h.len h1 h48 hk hi (Below.refl _ _))
 have KA:Hid (∀ (V:World) (bc:Nat) (fv:Value),ChAt V bc bf n (N.getD n []) fv->(10<=i->∃ bg,FarA V w.heap.size bc P fv (F n) bg)->Calls Tryz.prog 37 #[.pointer (some ⟨bc,0,none⟩),.int .i64 i] V fun e w'=>e=.returned (.int .i64 (locX (N.getD n []) (F n) i))/\V=w'):=Lib.hid fun V bc fv hc hF=>chAt_of hc hF hi
 clear h hk
 go_enter Tryz.func34,Tryz.ntmps34
 go_wp2_with (first
  |(go_at_call 36;refine KO.out.mono ?_;rintro e w2 ⟨bc,fv,rfl,hbc,hc,hfa,hb2⟩)
  |(go_at_call 37;refine (KA.out _ _ _ hc hfa).mono ?_;rintro e w' ⟨rfl,rfl⟩))
 go_ret2
 exact ⟨rfl,hb2⟩
theorem dir_isl {V:World}{bc n:Nat}{x:List Int}{fv:Value} (hc:ChAt V bc bf n x fv):ISl V (.slice (some ⟨bc,5,none⟩) 10 10) ((x.drop 3).take 10):=by
 have hl:((x.drop 3).take 10).length=10:=by rw[List.length_take,List.length_drop,hc.1];decide
 refine .inr ⟨⟨bc,5,none⟩,10,by rw[hl],fun j hj=>⟨hc.lt,rfl,?_⟩⟩
 rw[hl] at hj
 have:=hc.num (k:=3+j) (by omega)
 rw[show 2+(3+j)=5+j by omega] at this
 refine this.trans ?_
 unfold num
 rw[List.getD_eq_getElem?_getD,List.getD_eq_getElem?_getD,List.getElem?_take,if_pos hj,List.getElem?_drop]
theorem infoIS:(Tryz.prog.info? 78).map (fun i=>(i.zero,i.size,i.bytes))=some (some (.slice none 0 0),1,24):=by kernel_rfl
theorem ofFn_two (f:Fin 2->Value) (u v:Value):((Array.ofFn f).setIfInBounds 0 u).setIfInBounds 1 v=#[u,v]:=by
 apply Array.ext
 · simp
 · intro i h1 h2
   have h0:i=0\/i=1:=by simp at h2;omega
   rcases h0 with rfl|rfl <;> simp
theorem build_ints (W:World) (a b:Option Addr) (n m c e:Nat):(Instr.buildSlice 181 2 #[(0,.slice a n c),(1,.slice b m e)]).run Tryz.prog W=.ok (.slice (some ⟨W.heap.size,0,none⟩) 2 2) (W.alloc (.cells #[.slice a n c,.slice b m e] 78)):=by
 obtain ⟨t,h2,h3,h4,h5⟩:=info_parts infoIS
 refine run_buildSlice (P:=Tryz.prog) W 181 78 2 #[(0,.slice a n c),(1,.slice b m e)] #[.slice a n c,.slice b m e] t (.slice none 0 0) Tryz.underlying181 h2 h3 (by rw[h4];decide) (by rw[h4];decide) ?_
 rw[h4]
 simp[Instr.fill,Value.cells,Array.range]
 exact ofFn_two _ _ _
theorem IR.more {w:World}{B B':Nat}{v:Value}{l:List Int} (h:IR w B v l) (hb:B'<=B):IR w B' v l:=⟨h.1,h.2.elim .inl fun ⟨g,cap,cur,hv,hg,r⟩=>.inr ⟨g,cap,cur,hv,Nat.le_trans hb hg,r⟩⟩
theorem lastX_stop {L:List Int}{k:Nat} (h:k=0\/L.getD (k-1) 0≠0):lastX L k=k:=by
 rcases h with rfl|h
 · rfl
 · cases k with
   |zero=>rfl
   |succ k=>unfold lastX;rw[if_neg (by simpa using h)]
theorem lastX_step {L:List Int}{k:Nat} (h0:0<k) (h:L.getD (k-1) 0=0):lastX L (k-1)=lastX L k:=by
 cases k with
 |zero=>omega
 |succ k=>rw[lastX,if_pos (by simpa using h)];rfl
theorem fmBlocks_of (h:Frd w P d p X S N O kk F bf) {n:Nat} (h1:1<=n) (h48:n<48) (hk:kindN N n≠0) {M:Nat} (hM:M=lastX (allX (N.getD n []) (F n)) 138):
 Calls Tryz.prog 33 #[.pointer (some ⟨bf,0,none⟩),.int .i64 n] w fun e w'=>∃ b cap,e=.returned (.tuple #[.slice (some ⟨b,0,none⟩) M cap,.int .i64 0])/\b<w'.heap.size/\w.heap.size<=b/\(∀ j,j<138->w'.cell? ⟨b,j,none⟩=some (.int .i64 ((allX (N.getD n []) (F n)).getD j 0)))/\Below w.heap.size w w':=by
 have hx:=h.tab.n.get h48
 have hF:=h.fi.fl n
 have KO:=Lib.hid (fmOpenAll_yes h.inv h.fs h.tab h.fi h.k12 h.len h1 h48 hk (Below.refl _ _))
 obtain ⟨L,hL⟩:∃ L,L=allX (N.getD n []) (F n):=⟨_,rfl⟩
 have hLl:L.length=138:=by rw[hL];exact allX_len hx hF.1
 rw[<- hL] at hM |-
 have hd10:(((N.getD n []).drop 3).take 10).length=10:=by rw[List.length_take,List.length_drop,hx];decide
 have KC:Hid (∀ (V:World) (bc bg:Nat) (fv:Value),ChAt V bc bf n (N.getD n []) fv->FarA V w.heap.size bc P fv (F n) bg->Calls Tryz.prog 72 #[.slice (some ⟨V.heap.size,0,none⟩) 2 2] (V.alloc (.cells #[.slice (some ⟨bc,5,none⟩) 10 10,.slice (some ⟨bg,0,none⟩) 128 128] 78)).drew fun e w'=>∃ r,e=.returned r/\IR w' V.heap.size r L/\Below V.heap.size V w'):=Lib.hid fun V bc bg fv hc hf=>by
  have hb:=below_box V (.cells #[.slice (some ⟨bc,5,none⟩) 10 10,.slice (some ⟨bg,0,none⟩) 128 128] 78)
  have hr:=heap_alloc_new V (.cells #[.slice (some ⟨bc,5,none⟩) 10 10,.slice (some ⟨bg,0,none⟩) 128 128] 78)
  have hd:Below V.heap.size V (V.alloc (.cells #[.slice (some ⟨bc,5,none⟩) 10 10,.slice (some ⟨bg,0,none⟩) 128 128] 78)).drew:=hb.drew
  have hfv:=hf.2.2.2.2.1
  have h2:=(hf.low hd).isl
  rw[hfv] at h2
  refine (slConcat_of (w:=(V.alloc (.cells #[.slice (some ⟨bc,5,none⟩) 10 10,.slice (some ⟨bg,0,none⟩) 128 128] 78)).drew) (g:=V.heap.size) hr (dir_isl (hc.low hd)) h2 (by rw[hd10];decide) (by rw[hF.1];decide) (by rw[hd10];decide)).mono ?_
  rintro e w' ⟨r,he,hir,hbb⟩
  have hs:V.heap.size<=(V.alloc (.cells #[.slice (some ⟨bc,5,none⟩) 10 10,.slice (some ⟨bg,0,none⟩) 128 128] 78)).drew.heap.size:=hd.size
  refine ⟨r,he,?_,hd.trans (hbb.mono hs)⟩
  have:=hir.more hs
  rw[hL];exact this
 have HL:=Lib.hid hLl
 have HM:=Lib.hid hM
 clear h hk hx hF hL hLl hd10 hM
 go_enter Tryz.func33,Tryz.ntmps33
 go_wp2_with (go_at_call 45;refine KO.out.mono ?_;rintro e w2 ⟨bc,fv,rfl,hbc,hc,hfa,hb2⟩)
 obtain ⟨bg,hg⟩:=hfa (Nat.le_refl _)
 obtain rfl:=hg.2.2.2.2.1
 have KC2:=Lib.hid (KC.out _ _ _ _ hc hg)
 have HB2:=Lib.hid hb2
 have c16:w2.drew.cell? ⟨bc,16,none⟩=some (.slice (some ⟨bg,0,none⟩) 128 128):=hc.cf
 have c16b:(w2.alloc (.cells #[.slice (some ⟨bc,5,none⟩) 10 10,.slice (some ⟨bg,0,none⟩) 128 128] 78)).drew.cell? ⟨bc,16,none⟩=some (.slice (some ⟨bg,0,none⟩) 128 128):=(hc.low ((below_box _ _).drew)).cf
 have HC16:Hid (∀ V,Below w2.heap.size w2 V->V.cell? ⟨bc,16,none⟩=some (.slice (some ⟨bg,0,none⟩) 128 128)):=Lib.hid fun V hv=>(hc.low hv).cf
 have hsl:=fun W=>run_slice_arr10 W ⟨bc,5,none⟩
 have hbd:=fun W=>build_ints W (some ⟨bc,5,none⟩) (some ⟨bg,0,none⟩) 10 128 10 128
 clear hc hg hfa hbc hb2
 go_region_held3 (fun V=>V.cell? ⟨bc,16,none⟩=some (.slice (some ⟨bg,0,none⟩) 128 128)) (first|exact c16|exact c16b|exact c3) (first
  |(go_at_call 72;(with_reducible refine KC2.out.mono ?_);rintro e w3 ⟨r,rfl,hir,hb3⟩;have c3:=HC16.out _ hb3))
 all_goals
  rcases hir.2 with ⟨_,hz⟩| ⟨g,cap,cur,rfl,hgB,hgr,hnc,hcm,_,_⟩
  · rw[HL.out] at hz;cases hz
  have HB3:Hid (Below w.heap.size w w3):=Lib.hid (HB2.out.trans (hb3.mono HB2.out.size))
  have HGB:Hid (w.heap.size<=g/\g<w3.heap.size):=Lib.hid ⟨Nat.le_trans HB2.out.size hgB,(Array.getElem?_eq_some_iff.1 hgr).1⟩
  have HCE:Hid (∀ j,j<138->w3.cell? ⟨g,j,none⟩=some (.int .i64 (L.getD j 0))):=Lib.hid fun j hj=>by
   rcases hir.sl with ⟨e,_⟩| ⟨a,c,e,hc⟩
   · cases e
   · obtain rfl:=Option.some.inj (Value.slice.inj e).1
     have:=(hc j (by rw[HL.out];exact hj)).2.2
     rwa [show (0:Nat)+j=j by omega] at this
  have hcap:138<=cap:=by rw[HL.out] at hnc;exact hnc
  have hmx:cap<=maxLen:=hcm
  rw[HL.out]
  clear hir hb3 hgB hgr hnc hcm c16 c16b hsl hbd c3
  go_wp2
  go_loopw [8] (fun v wr=>w3=wr/\∃ k:Nat,k<=138/\v=.slice (some ⟨g,0,none⟩) k cap/\Hid (lastX L k=M)) (fun v _=>match v with |.slice _ n _=>n|_=>0)
  case atStart=>exact ⟨rfl,138,Nat.le_refl _,rfl,Lib.hid HM.out.symm⟩
  case round=>
   obtain ⟨rfl,k,hk,rfl,HK⟩:=hrel
   by_cases h0:k=0
   · subst h0
     have hM0:M=0:=HK.out.symm
     go_wp2
     go_ret2
     exact ⟨g,cap,by rw[hM0];rfl,HGB.out.2,HGB.out.1,HCE.out,HB3.out⟩
   · have ek:(0:Int)<(k:Int):=by omega
     have HCK:=HCE.out (k-1) (by omega)
     obtain ⟨y,hy⟩:∃ y,y=L.getD (k-1) 0:=⟨_,rfl⟩
     rw[<- hy] at HCK
     have HY:=Lib.hid hy
     obtain ⟨j,hj⟩:∃ j,j=k-1:=⟨_,rfl⟩
     rw[<- hj] at HCK
     have e1:IntKind.i64.wrap ((k:Int)-1)=(j:Int):=by rw[IntWalk.i64_in _ (by omega)];omega
     have ejk:(j:Int)<(k:Int):=by omega
     have ejc:(j:Int)<=(cap:Int):=by omega
     have HJ:=Lib.hid hj
     have HK0:=Lib.hid h0
     clear hy hj h0
     by_cases hz:y=0
     · have HZ:=Lib.hid hz
       subst hz
       go_wp2
       go_roundw
       case rel=>exact ⟨by trivial,j,by have:=HJ.out;omega,rfl,Lib.hid (by rw[HJ.out,lastX_step (by have:=HK0.out;omega) HY.out.symm];exact HK.out)⟩
       case measure=>have:=HJ.out;have:=HK0.out;simp;omega
     · have hMk:M=k:=by rw[<- HK.out];exact lastX_stop (.inr (by rw[<- HY.out];exact hz))
       have hzb:(y==0)=false:=by simpa using hz
       go_wp2
       go_ret2
       exact ⟨g,cap,by rw[hMk];rfl,HGB.out.2,HGB.out.1,HCE.out,HB3.out⟩
theorem fmPieces_of (h:Frd w P d p X S N O kk F bf) {n:Nat} (h1:1<=n) (h48:n<48) (hk:kindN N n≠0):
 Calls Tryz.prog 20 #[.pointer (some ⟨bf,0,none⟩),.int .i64 n] w fun e w'=>e=.returned (.tuple #[.int .i64 (pieX (allX (N.getD n []) (F n)) 138:Nat),.int .i64 0])/\Below w.heap.size w w':=by
 have hx:=h.tab.n.get h48
 have hF:=h.fi.fl n
 obtain ⟨M,hM⟩:∃ M,M=lastX (allX (N.getD n []) (F n)) 138:=⟨_,rfl⟩
 have KB:=Lib.hid (fmBlocks_of h h1 h48 hk hM)
 have hpl:=pieX_last (allX (N.getD n []) (F n)) 138
 have hbd:∀ j,j<138->0<=(allX (N.getD n []) (F n)).getD j 0/\(allX (N.getD n []) (F n)).getD j 0<=767:=fun j hj=>by rw[allX_get hx hF.1 hj];exact locX_bd (h.tab.n.frm n h48) hF (by omega)
 have hM138:M<=138:=by rw[hM];exact lastX_le _ _
 obtain ⟨L,hL⟩:∃ L,L=allX (N.getD n []) (F n):=⟨_,rfl⟩
 rw[<- hL] at KB hM hpl hbd |-
 rw[<- hM] at hpl
 rw[hpl]
 have HBD:=Lib.hid hbd
 have HPL:Hid (∀ k,pieX L k<=k):=Lib.hid (pieX_le L)
 clear h hx hF hk hL hM hpl hbd
 go_enter Tryz.func20,Tryz.ntmps20
 go_wp2_with (go_at_call 33;refine KB.out.mono ?_;rintro e w2 ⟨b,cap,rfl,hbl,hbw,hce,hb2⟩)
 have HCE:=Lib.hid hce
 have HB2:=Lib.hid hb2
 clear hce hb2 hbl hbw
 go_loopw [8,9,23] (fun c bf i wr=>w2=wr/\∃ k:Nat,k<=M/\i=.int .i64 k/\c=.int .i64 (pieX L k:Nat)/\bf=.int .i64 (if k=0 then 0 else L.getD (k-1) 0)) (fun _ _ i _=>M-(intOf i).toNat)
 case atStart=>exact ⟨rfl,0,by omega,rfl,rfl,rfl⟩
 case round=>
  obtain ⟨rfl,k,hk,rfl,rfl,rfl⟩:=hrel
  by_cases hlt:k<M
  · have ek:(k:Int)<(M:Int):=by omega
    have ck:=HCE.out k (by omega)
    have hp:pieX L (k+1)=pieX L k+if L.getD k 0≠0/\((if k=0 then 0 else L.getD (k-1) 0)=0\/L.getD k 0≠(if k=0 then 0 else L.getD (k-1) 0)+1) then 1 else 0:=rfl
    have hbx:0<=(if k=0 then 0 else L.getD (k-1) 0)/\(if k=0 then 0 else L.getD (k-1) 0)<=767:=by
     split
     · decide
     · exact HBD.out _ (by omega)
    have hby:=HBD.out k (by omega)
    have hnx:L.getD k 0=if k+1=0 then 0 else L.getD (k+1-1) 0:=by rw[if_neg (by omega),Nat.add_sub_cancel]
    have hple:=HPL.out k
    obtain ⟨x,hxx⟩:∃ x,x=(if k=0 then 0 else L.getD (k-1) 0):=⟨_,rfl⟩
    obtain ⟨y,hyy⟩:∃ y,y=L.getD k 0:=⟨_,rfl⟩
    obtain ⟨c,hc⟩:∃ c,c=pieX L k:=⟨_,rfl⟩
    rw[<- hxx,<- hyy,<- hc] at hp
    rw[<- hxx] at hbx
    rw[<- hyy] at ck hby hnx
    rw[<- hc] at hple
    rw[<- hxx,<- hc]
    have e1:IntKind.i64.wrap (x+1)=x+1:=IntWalk.i64_in _ (by omega)
    have HP:=Lib.hid hp
    have HN:=Lib.hid hnx
    clear hxx hyy hc hp hnx hbx hby
    by_cases hy0:y=0
    · have hb0:(y != 0)=false:=by simp[hy0]
      have HP2:Hid (pieX L (k+1)=c):=Lib.hid (by rw[HP.out,if_neg (fun h=>h.1 hy0)];rfl)
      clear hy0
      go_wp2
      go_roundw
      case rel=>exact ⟨by trivial,k+1,by omega,by go_num,by rw[HP2.out],by rw[<- HN.out]⟩
      case measure=>simp[intOf];omega
    · have hb0:(y != 0)=true:=by simpa using hy0
      by_cases hx0:x=0
      · have hb1:(x==0)=true:=by simp[hx0]
        have HP2:Hid (pieX L (k+1)=c+1):=Lib.hid (by rw[HP.out,if_pos ⟨hy0,.inl hx0⟩])
        clear hy0 hx0
        go_wp2
        go_roundw
        case rel=>exact ⟨by trivial,k+1,by omega,by go_num,by rw[HP2.out];go_num,by rw[<- HN.out]⟩
        case measure=>simp[intOf];omega
      · have hb1:(x==0)=false:=by simpa using hx0
        by_cases hxy:y=x+1
        · have hb2:(y != x+1)=false:=by simp[hxy]
          have HP2:Hid (pieX L (k+1)=c):=Lib.hid (by rw[HP.out,if_neg (fun h=>h.2.elim hx0 fun h=>h hxy)];rfl)
          clear hy0 hx0 hxy
          go_wp2
          go_roundw
          case rel=>exact ⟨by trivial,k+1,by omega,by go_num,by rw[HP2.out],by rw[<- HN.out]⟩
          case measure=>simp[intOf];omega
        · have hb2:(y != x+1)=true:=by simpa using hxy
          have HP2:Hid (pieX L (k+1)=c+1):=Lib.hid (by rw[HP.out,if_pos ⟨hy0,.inr hxy⟩])
          clear hy0 hx0 hxy
          go_wp2
          go_roundw
          case rel=>exact ⟨by trivial,k+1,by omega,by go_num,by rw[HP2.out];go_num,by rw[<- HN.out]⟩
          case measure=>simp[intOf];omega
  · obtain rfl:k=M:=by omega
    generalize (if k=0 then 0 else L.getD (k-1) 0)=x
    go_wp2
    go_ret2
    exact ⟨rfl,HB2.out⟩
end
end Go.Proofs.YtaakepjgpnaecaaGreat
namespace Go.Proofs.YtaakepjgpnaecaaGreat
set_option maxRecDepth 100000
open Go.RowKit Go.ChangeShapes Go.WideShapes
structure O12 where
 k:Int
 b:Int
 l:Int
 g:Int
 n:Int
 i:Int
 a:Int
instance:Inhabited O12:=⟨⟨0,0,0,0,0,0,0⟩⟩
def in64 (x:Int):Prop:= -9223372036854775808<=x/\x<=9223372036854775807
theorem intCells12:Tryz.prog.cellsOf 3=1:=by kernel_rfl
section
variable {H:Type}{enc:TypeId × Value->H}{W:World}{base:Nat}{spare:Nat->Bool}{held:Bool}
end
end Go.Proofs.YtaakepjgpnaecaaGreat
namespace Go.Proofs.YtaakepjgpnaecaaGreat
set_option maxRecDepth 100000
open Go.RowKit
structure Tsd (w0 w:World) (P:Nat->Prop) (d p:Value) (X:XSt) (S:List Int) (N:List (List Int)) (O:List (Int × Int)) (kk bf:Nat):Prop where
 inv:SInv w P d p X
 wi:X.wi=false
 fu:X.ds.fu=false
 has:Has X.is O kk
 ok:OOk O kk
 tab:Tab X.is S N
 fs:FsAt w bf p
 nb:¬ P bf
 bN:w0.heap.size<=bf
 pN:∀ x,P x->w0.heap.size<=x
 be:Below w0.heap.size w0 w
theorem fsNew_of (bs:Nat) (w:World):Calls Tryz.prog 21 #[.pointer (some ⟨bs,0,none⟩)] w fun e w'=>e=.returned (.pointer (some ⟨w.heap.size,0,none⟩))/\FsAt w' w.heap.size (.pointer (some ⟨bs,0,none⟩))/\Below w.heap.size w w':=by
 have hb:=below_box w (.cells #[.pointer (some ⟨bs,0,none⟩)] 31)
 have hr:=heap_alloc_new w (.cells #[.pointer (some ⟨bs,0,none⟩)] 31)
 go_enter Tryz.func21,Tryz.ntmps21
 go_wp2
 go_ret
 exact ⟨rfl,hr,hb⟩
section
variable {w0 w:World}{P:Nat->Prop}{d p:Value}{X:XSt}{S S2:List Int}{N N2:List (List Int)}{O O2:List (Int × Int)}{kk bf:Nat}
end
theorem start13 {kk:Nat} (h1:1<=kk) (h2:kk<=12) (w0:World):∀ {w:World},Below w0.heap.size w0 w->Calls Tryz.prog 22 #[.int .i64 (64*(kk:Int)),.int .i64 (64*(kk:Int))] w fun e w'=>∃ b,e=.returned (.pointer (some ⟨b,0,none⟩))/\Below w0.heap.size w0 w'/\
 Calls Tryz.prog 21 #[.pointer (some ⟨b,0,none⟩)] w' fun e w''=>∃ bf P d X,e=.returned (.pointer (some ⟨bf,0,none⟩))/\Tsd w0 w'' P d (.pointer (some ⟨b,0,none⟩)) X (newS kk) newN (newO kk) kk bf/\bf<w''.heap.size:=fun {w} hb=>by
 refine (laid12_tab h1 h2 w).mono fun e w' ⟨b,P,d,G,ds,he,hI,hfu,hH,hT,hP,hb1⟩=>⟨b,he,hb.trans (hb1.mono hb.size),?_⟩
 refine (fsNew_of b w').mono fun e w'' ⟨he2,hfs,hb2⟩=>?_
 have hs:=hb.size
 have hs1:=hb1.size
 have hlt:=hI.lt
 refine ⟨w'.heap.size,P,d,_,he2,⟨hI.low hb2,rfl,hfu,hH,newO_ok h1 h2,hT,hfs,fun hp=>by have:=hlt _ hp;omega,by omega,fun x hx=>by have:=hP x hx;omega,?_⟩,(Array.getElem?_eq_some_iff.1 hfs).1⟩
 exact (hb.trans (hb1.mono hs)).trans (hb2.mono (by omega))
end Go.Proofs.YtaakepjgpnaecaaGreat
