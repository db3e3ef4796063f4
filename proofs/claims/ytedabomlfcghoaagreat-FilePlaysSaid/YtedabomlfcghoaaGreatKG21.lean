/- What the law rests on: part 21. -/
import Derived.Test.YtedabomlfcghoaaGreatKG20
set_option linter.unusedVariables false
namespace Go.Proofs.YtedabomlfcghoaaGreat
set_option maxRecDepth 100000
open Go.RowKit BM
theorem chAt_near{W:World}{bc bf n:Nat}{x:List Int}{fv:Value}(hc:ChAt W bc bf n x fv){i:Nat}(hi:i<10):
 Calls Tryz.prog 103 #[.pointer (some ⟨bc,0,none⟩),.int .i64 i] W fun e w'=>e=.returned (.int .i64 (num x (3+i)))/\W=w':=by
 have c:=hc.num (k:=3+i) (by omega);rw[show 2+(3+i)=5+i by omega] at c;obtain⟨v,hv⟩:∃ v,v=num x (3+i):=⟨_,rfl⟩;rw[<- hv] at c |-
 have ei:(i:Int)<10:=by omega
 clear hc hv;go_enter Tryz.func103,Tryz.ntmps103;go_wp2;go_ret;exact⟨rfl,rfl⟩
theorem chAt_far{W:World}{bc bf n B bg:Nat}{P:Nat->Prop}{x F:List Int}{fv:Value}(hc:ChAt W bc bf n x fv)(hF:FarA W B bc P fv F bg){i:Nat}(h10:10<=i)(hi:i<138):
 Calls Tryz.prog 103 #[.pointer (some ⟨bc,0,none⟩),.int .i64 i] W fun e w'=>e=.returned (.int .i64 (num F (i-10)))/\W=w':=by
 obtain⟨f1,f2,f3,f4,rfl,f6⟩:=hF;have cf:=hc.cf;have c:=Zev f6 (i-10) (by omega);obtain⟨v,hv⟩:∃ v,v=num F (i-10):=⟨_,rfl⟩;rw[show F.getD (i-10) 0=v by rw[hv];rfl] at c;rw[<- hv];obtain⟨j,hj⟩:∃ j,j=i-10:=⟨_,rfl⟩;rw[<- hj] at c;have e1:IntKind.i64.wrap ((i:Int)-10)=(j:Int):=by rw[IntWalk.i64_in _ (by omega)];omega
 have e10:¬ (i:Int)<10:=by omega
 have ej:(j:Int)<128:=by omega
 clear hc f1 f2 f3 f4 f6 hv hj h10 hi;go_enter Tryz.func103,Tryz.ntmps103;go_wp2;go_ret;exact⟨rfl,rfl⟩
theorem chAt_of{W:World}{bc bf n B:Nat}{P:Nat->Prop}{x F:List Int}{fv:Value}(hc:ChAt W bc bf n x fv){i:Nat}(hF:10<=i->∃ bg,FarA W B bc P fv F bg)(hi:i<138):
 Calls Tryz.prog 103 #[.pointer (some ⟨bc,0,none⟩),.int .i64 i] W fun e w'=>e=.returned (.int .i64 (locX x F i))/\W=w':=by
 unfold locX;by_cases h:i<10
 . rw[if_pos h];exact chAt_near hc h
 . rw[if_neg h,if_neg (by omega)]
   obtain⟨bg,hg⟩:=hF (by omega);exact chAt_far hc hg (by omega) hi
def Zgz(x F:List Int)(i:Nat):Int:=if i=0\/locX x F (i-1)=0 then 0 else locX x F (i-1)+1
theorem chGoal_of{W:World}{bc bf n B:Nat}{P:Nat->Prop}{x F:List Int}{fv:Value}(hc:ChAt W bc bf n x fv){i:Nat}(hF:10<=i->∃ bg,FarA W B bc P fv F bg)(hi:i<138)(hbd:0<i->0<=locX x F (i-1)/\locX x F (i-1)<=767):
 Calls Tryz.prog 113 #[.pointer (some ⟨bc,0,none⟩),.int .i64 i] W fun e w'=>e=.returned (.int .i64 (Zgz x F i))/\W=w':=by
 by_cases h0:i=0
 . subst h0
   have e1:Zgz x F 0=0:=if_pos (.inl rfl);rw[e1];clear hc hF hbd e1;go_enter Tryz.func113,Tryz.ntmps113;go_wp2;go_ret;exact⟨rfl,rfl⟩
 . have KA:=hid (chAt_of (i:=i-1) hc (fun h=>hF (by omega)) (by omega))
   obtain⟨v,hv⟩:∃ v,v=locX x F (i-1):=⟨_,rfl⟩;have eg:Zgz x F i=if v=0 then 0 else v+1:=by unfold Zgz;rw[<- hv];by_cases e:v=0 <;> simp[e,h0]
   have hb:=hbd (by omega);rw[<- hv] at KA hb;rw[eg];obtain⟨j,hj⟩:∃ j,j=i-1:=⟨_,rfl⟩;rw[<- hj] at KA;have e1:IntKind.i64.wrap ((i:Int)-1)=(j:Int):=by rw[IntWalk.i64_in _ (by omega)];omega
   have e2:IntKind.i64.wrap (v+1)=v+1:=IntWalk.i64_in _ (by omega);have ei:((i:Int)==0)=false:=by simp;omega
   clear hc hF hbd hv eg hj h0 hi hb;by_cases hz:v=0
   . subst hz
     go_enter Tryz.func113,Tryz.ntmps113;go_wp2_with (go_at_call 103;refine KA.out.mono ?_;rintro e w' ⟨rfl,rfl⟩)
     go_ret;exact⟨rfl,rfl⟩
   . rw[if_neg hz]
     have hz2:(v==0)=false:=by simpa using hz
     clear hz;go_enter Tryz.func113,Tryz.ntmps113;go_wp2_with (go_at_call 103;refine KA.out.mono ?_;rintro e w' ⟨rfl,rfl⟩)
     go_ret;exact⟨rfl,rfl⟩
section
variable {w:World}{P:Nat->Prop}{d p:Value}{X:XSt}{S:List Int}{N:List (List Int)}{O:List (Int × Int)}{kk:Nat}{F:Nat->List Int}{bf:Nat}
theorem chRead_of(h:SInv w P d p X)(hf:FsAt w bf p)(hF:Fils noEx X.cur S N O kk F)(h12:kk<=12)(hl:X.cur.length=64*kk){n:Nat}(h1:1<=n)(h48:n<48){W:World}(hb:Below w.heap.size w W){bc:Nat}{fv:Value}(hc:ChAt W bc bf n (N.getD n []) fv)(hbc:w.heap.size<=bc):
 Calls Tryz.prog 117 #[.pointer (some ⟨bc,0,none⟩)] W fun e w'=>e=.returned (.int .i64 0)/\∃ fv bg,ChAt w' bc bf n (N.getD n []) fv/\FarA w' W.heap.size bc P fv (F n) bg/\KeptG W w' bc:=by
 by_cases hm:num (N.getD n []) 13=0
 . rw[hF.m0 n h1 h48 hm]
   exact chRead_hole hc hm fun k hk=>Nat.lt_of_lt_of_le (h.lt k hk) hb.size
 . have ho:=hF.map h1 h48 id hm
   have h2:=ho.1;exact chRead_map h hf hb hc (m:=(num (N.getD n []) 13).toNat) (by omega) (by omega) (by omega) (ho.outJ h12) (hF.fl n) (hF.m1 n h1 h48 hm) hbc
def OpenA(W:World)(P:Nat->Prop)(bf n:Nat)(x F:List Int)(i:Nat)(e:Ending)(w':World):Prop:=
 ∃ bc fv,e=.returned (.tuple #[.pointer (some ⟨bc,0,none⟩),.int .i64 0])/\W.heap.size<=bc/\ChAt w' bc bf n x fv/\(10<=i->∃ bg,FarA w' W.heap.size bc P fv F bg)/\Below W.heap.size W w'
theorem fmOpenAt_yes(h:SInv w P d p X)(hf:FsAt w bf p)(hT:Tab X.cur S N)(hF:Fils noEx X.cur S N O kk F)(h12:kk<=12)(hl:X.cur.length=64*kk){n:Nat}(h1:1<=n)(h48:n<48)(hk:Zbf N n≠0){i:Nat}(hi:i<138){W:World}(hb:Below w.heap.size w W):
 Calls Tryz.prog 102 #[.pointer (some ⟨bf,0,none⟩),.int .i64 n,.int .i64 i] W (OpenA W P bf n (N.getD n []) (F n) i):=by
 have KO:=hid (fmOpen_yes h hf hT h1 h48 hk hb);have KR:=hid (fun(V:World) (bc:Nat) (fv:Value) (hv:Below w.heap.size w V) (hc:ChAt V bc bf n (N.getD n []) fv) (hbc:w.heap.size<=bc)=>chRead_of h hf hF h12 hl h1 h48 hv hc hbc);have HB:=hid hb;have ei:(i:Int)<138:=by omega
 clear h hf hT hF hk hb;by_cases hn:i<10
 . have en:(i:Int)<10:=by omega
   go_enter Tryz.func102,Tryz.ntmps102;go_wp2_with (go_at_call 116;refine KO.out.mono ?_;rintro e w2 ⟨bc,rfl,hbc,hc,hb2⟩)
   go_ret2;exact⟨bc,_,rfl,hbc,hc,fun h=>absurd h (by omega),hb2⟩
 . have en:¬ (i:Int)<10:=by omega
   go_enter Tryz.func102,Tryz.ntmps102
   go_wp2_with (first
    |(go_at_call 116;refine KO.out.mono ?_;rintro e w2 ⟨bc,rfl,hbc,hc,hb2⟩)
    |(go_at_call 117;refine(KR.out _ _ _ (HB.out.trans (hb2.mono HB.out.size)) hc (Nat.le_trans HB.out.size hbc)).mono ?_;rintro e w3 ⟨rfl,fv,bg,hc3,hg3,hk3⟩))
   go_ret2;exact⟨bc,fv,rfl,hbc,hc3,fun _=>⟨bg,hg3.1,Nat.le_trans hb2.size hg3.2.1,hg3.2.2⟩,hb2.trans (hk3.below hbc hb2.size)⟩
theorem fmOpenAll_yes(h:SInv w P d p X)(hf:FsAt w bf p)(hT:Tab X.cur S N)(hF:Fils noEx X.cur S N O kk F)(h12:kk<=12)(hl:X.cur.length=64*kk){n:Nat}(h1:1<=n)(h48:n<48)(hk:Zbf N n≠0){W:World}(hb:Below w.heap.size w W):
 Calls Tryz.prog 68 #[.pointer (some ⟨bf,0,none⟩),.int .i64 n] W (OpenA W P bf n (N.getD n []) (F n) 10):=by
 have KO:=hid (fmOpen_yes h hf hT h1 h48 hk hb);have KR:=hid (fun(V:World) (bc:Nat) (fv:Value) (hv:Below w.heap.size w V) (hc:ChAt V bc bf n (N.getD n []) fv) (hbc:w.heap.size<=bc)=>chRead_of h hf hF h12 hl h1 h48 hv hc hbc);have HB:=hid hb;clear h hf hT hF hk hb;go_enter Tryz.func68,Tryz.ntmps68
 go_wp2_with (first
  |(go_at_call 116;refine KO.out.mono ?_;rintro e w2 ⟨bc,rfl,hbc,hc,hb2⟩)
  |(go_at_call 117;refine(KR.out _ _ _ (HB.out.trans (hb2.mono HB.out.size)) hc (Nat.le_trans HB.out.size hbc)).mono ?_;rintro e w3 ⟨rfl,fv,bg,hc3,hg3,hk3⟩))
 go_ret2;exact⟨bc,fv,rfl,hbc,hc3,fun _=>⟨bg,hg3.1,Nat.le_trans hb2.size hg3.2.1,hg3.2.2⟩,hb2.trans (hk3.below hbc hb2.size)⟩
end
end Go.Proofs.YtedabomlfcghoaaGreat
namespace Go.Proofs.YtedabomlfcghoaaGreat
set_option maxRecDepth 100000
open Go.RowKit
theorem q1{α:Type _}(l:List α)(i:Nat)(a:α):l.toArray.setIfInBounds i a=(l.set i a).toArray:=List.setIfInBounds_toArray l i a
theorem q2{α:Type _}{x:α}{xs:List α}{a:α}:(x :: xs).set 0 a=a :: xs:=List.set_cons_zero
theorem q3{α:Type _}{x:α}{xs:List α}{i:Nat}{a:α}:(x :: xs).set (i+1) a=x :: xs.set i a:=List.set_cons_succ
theorem q4{α:Type _}{xs:List α}{i:Nat}(h:i<xs.toArray.size):xs.toArray[i]=xs[i]'(by simpa using h):=List.getElem_toArray h
theorem q5{α:Type _}(a:α)(l:List α)(h:0<(a :: l).length):(a :: l)[0]=a:=List.getElem_cons_zero a l h
theorem q6{α:Type _}(a:α)(l:List α)(i:Nat)(h:i+1<(a :: l).length):(a :: l)[i+1]=l[i]'(by simpa using h):=List.getElem_cons_succ a l i h
theorem tk{P:Program}{ops:Array Oper}{Q:Exit->Act->World->Prop}{md:Region.Mode}{S:World->Prop}(i:Nat){oi:Oper}(v:Value){fuel:Nat}{listed:Array Bool}{a:Act}{w:World}(hi:ops[i]? =some oi)
 (hb:(Region.noSelect ops && (Region.free md ops listed i && (Region.ready md ops listed).contains i))=true)
 (hQ:∀ c a w,Q (.panic c) (a.put oi.dst v) w->Q (.panic c) a w) (hy:YieldsIf P ops S oi v a) (hS:S w)
 (h:wpAnyH P md ops Q S fuel (listed.setIfInBounds i true) (a.put oi.dst v) w):wpAnyH P md ops Q S (fuel+1) listed a w:=by
 rw[Bool.and_eq_true,Bool.and_eq_true] at hb;exact wpAnyH_take hi hb.1 hb.2.1 hb.2.2 hQ hy hS h
end Go.Proofs.YtedabomlfcghoaaGreat
namespace Go.Proofs.YtedabomlfcghoaaGreat
set_option maxRecDepth 100000
open Go.RowKit BM
theorem FsAt.ne_ch{w:World}{bf bc n bf':Nat}{p:Value}{x:List Int}{fv:Value}(h:FsAt w bf p)(hc:ChAt w bc bf' n x fv):bf≠bc:=fun e=>by
 have h2:=hc.2.2;rw[<- e,h] at h2;have:=congrArg (fun o=>match o with |some (Obj.cells cs _ _)=>cs.size|_=>0) h2;simp[chC] at this
theorem Chg.one{w w':World}{P:Nat->Prop}{g:Nat}(h:Wrote w w' g):Chg (PM P (·=g)) (PM P (·=g)) w w':=(Chg.of_wrote1 h).mp P
section
variable {w:World}{P:Nat->Prop}{d p:Value}{X:XSt}{S:List Int}{N:List (List Int)}{bf:Nat}
theorem SInv.wrote{w':World}{g:Nat}(h:SInv w P d p X)(hw:Wrote w w' g)(hn:¬ P g):SInv w' P d p X:=h.keep (Nat.le_of_eq hw.2.2.2.1.symm) fun k hk=>hw.2.2.2.2 k fun e=>hn (e ▸ hk)
theorem nodeP(h:SInv w P d p X)(hw:X.wi=true)(hp:X.put.length<37)(hf:FsAt w bf p)(hT:Tab X.call S N){n:Nat}(h1:1<=n)(h48:n<48){bc:Nat}{x:List Int}{fv:Value}(hc:ChAt w bc bf n x fv)(hnb:¬ P bc)(hfx:frmI x=true):
 Calls Tryz.prog 48 #[.pointer (some ⟨bf,0,none⟩),.int .i64 n,.agg (iC x).toArray] w fun e w'=>e=.returned (.int .i64 0)/\∃ P',SInv w' P' d p (putI X S N n x)/\ChAt w' bc bf n x fv/\Chg P P' w w'/\¬ P' bc:=
 (fsPut_yes h hw hp hf hT h1 h48 hc.1 hfx (Below.refl _ _)).mono fun e w' ⟨he,P',hi,hg⟩=>⟨he,P',hi,(hc.chg hg hnb).1,hg,(hc.chg hg hnb).2⟩
set_option maxHeartbeats 1000000 in
theorem chSet_near(h:SInv w P d p X)(hw:X.wi=true)(hp:X.put.length<37)(hf:FsAt w bf p)(hT:Tab X.call S N){n:Nat}(h1:1<=n)(h48:n<48){bc:Nat}{x:List Int}{fv:Value}(hc:ChAt w bc bf n x fv)(hnb:¬ P bc){i:Nat}(hi:i<10){v:Int}(hfx:frmI (x.set (3+i) v)=true):
 Calls Tryz.prog 114 #[.pointer (some ⟨bc,0,none⟩),.int .i64 i,.int .i64 v] w fun e w'=>e=.returned (.int .i64 0)/\∃ P',SInv w' P' d p (putI X S N n (x.set (3+i) v))/\ChAt w' bc bf n (x.set (3+i) v) fv/\Chg (PM P (·=bc)) (PM P' (·=bc)) w w'/\¬ P' bc:=by
 have hw1:=Wrote.setCell w bc (5+i) (.int .i64 v);have hc1:=hc.setN (k:=3+i) (by omega) v;rw[show 2+(3+i)=5+i by omega] at hc1;obtain⟨y,hy⟩:∃ y,y=x.set (3+i) v:=⟨_,rfl⟩;rw[<- hy] at hc1 hfx |-
 have hi1:=h.wrote hw1 hnb;have hf1:FsAt (w.setCell ⟨bc,5+i,none⟩ (.int .i64 v)) bf p:=(hw1.2.2.2.2 bf (hf.ne_ch hc)).trans hf;have c:=hc.num (k:=3+i) (by omega);rw[show 2+(3+i)=5+i by omega] at c;have fz:=hc.free (5+i);have ei:(i:Int)<10:=by omega
 have HD:=(Below.refl (w.setCell ⟨bc,5+i,none⟩ (.int .i64 v)).heap.size (w.setCell ⟨bc,5+i,none⟩ (.int .i64 v))).drew;have KP:=hid (nodeP (hi1.low HD) hw hp (hf1.low HD) hT h1 h48 (hc1.low HD) hnb hfx);have hS:ChAt (w.setCell ⟨bc,5+i,none⟩ (.int .i64 v)).drew bc bf n y fv:=hc1.low HD;have HX:=hid hc1.1;have HG:=hid ((Chg.one (P:=P) hw1).trans (Chg.of_below HD));have u1:=Tryz.underlying47;obtain⟨y0,hy0⟩:∃ y0,y0=num x (3+i):=⟨_,rfl⟩;rw[<- hy0] at c;clear h hw hp hf hT h1 h48 hc hnb hfx hw1 hc1 hi1 hf1 hy HD hy0;go_enter Tryz.func114,Tryz.ntmps114;go_upto_region 3 with(fail)
 refine wp_region_held_drew (S:=fun W=>ChAt W bc bf n y fv) (by kernel_rfl) hS (fun hHeld=>?_);clear hHeld;refine tk 0 (.pointer (some ⟨bc,0,none⟩)) rfl (by kernel_rfl) (fun _ _ _ h=>h) (Or.inl ⟨by rfl,?_⟩) (by assumption) ?_
 . intro W hM;go_simp
 (try simp only[Act.put,q1,q2,q3,q4,q5,q6])
 refine tk 1 (.pointer (some ⟨bc,0,none⟩)) rfl (by kernel_rfl) (fun _ _ _ h=>h) (Or.inl ⟨by rfl,?_⟩) (by assumption) ?_
 . intro W hM;go_simp
 (try simp only[Act.put,q1,q2,q3,q4,q5,q6])
 refine tk 2 (.pointer (some ⟨bc,0,none⟩)) rfl (by kernel_rfl) (fun _ _ _ h=>h) (Or.inl ⟨by rfl,?_⟩) (by assumption) ?_
 . intro W hM;go_simp
 (try simp only[Act.put,q1,q2,q3,q4,q5,q6])
 refine tk 3 (.pointer (some ⟨bf,0,none⟩)) rfl (by kernel_rfl) (fun _ _ _ h=>h) (Or.inl ⟨by rfl,?_⟩) (by assumption) ?_
 . intro W hM;have f0:=hM.c0;go_simp
 (try simp only[Act.put,q1,q2,q3,q4,q5,q6])
 refine tk 4 (.pointer (some ⟨bc,0,none⟩)) rfl (by kernel_rfl) (fun _ _ _ h=>h) (Or.inl ⟨by rfl,?_⟩) (by assumption) ?_
 . intro W hM;go_simp
 (try simp only[Act.put,q1,q2,q3,q4,q5,q6])
 refine tk 5 (.pointer (some ⟨bc,0,none⟩)) rfl (by kernel_rfl) (fun _ _ _ h=>h) (Or.inl ⟨by rfl,?_⟩) (by assumption) ?_
 . intro W hM;go_simp
 (try simp only[Act.put,q1,q2,q3,q4,q5,q6])
 refine tk 6 (.pointer (some ⟨bc,1,none⟩)) rfl (by kernel_rfl) (fun _ _ _ h=>h) (Or.inl ⟨by rfl,?_⟩) (by assumption) ?_
 . intro W hM;go_simp
 (try simp only[Act.put,q1,q2,q3,q4,q5,q6])
 refine tk 7 (.int .i64 n) rfl (by kernel_rfl) (fun _ _ _ h=>h) (Or.inl ⟨by rfl,?_⟩) (by assumption) ?_
 . intro W hM;have f1:=hM.c1;go_simp
 (try simp only[Act.put,q1,q2,q3,q4,q5,q6])
 refine tk 8 (.pointer (some ⟨bc,0,none⟩)) rfl (by kernel_rfl) (fun _ _ _ h=>h) (Or.inl ⟨by rfl,?_⟩) (by assumption) ?_
 . intro W hM;go_simp
 (try simp only[Act.put,q1,q2,q3,q4,q5,q6])
 refine tk 9 (.pointer (some ⟨bc,0,none⟩)) rfl (by kernel_rfl) (fun _ _ _ h=>h) (Or.inl ⟨by rfl,?_⟩) (by assumption) ?_
 . intro W hM;go_simp
 (try simp only[Act.put,q1,q2,q3,q4,q5,q6])
 refine tk 10 (.pointer (some ⟨bc,2,none⟩)) rfl (by kernel_rfl) (fun _ _ _ h=>h) (Or.inl ⟨by rfl,?_⟩) (by assumption) ?_
 . intro W hM;go_simp
 (try simp only[Act.put,q1,q2,q3,q4,q5,q6])
 refine tk 11 (.agg (iC y).toArray) rfl (by kernel_rfl) (fun _ _ _ h=>h) (yieldsIf_load_mid rfl 47 (.tmp 28) rfl bc 2 rfl (iC y) _ (fun W hW=>hW.rng) u1 rfl (by rw[Zhi,Zao,HX.out])) (by assumption) ?_
 (try simp only[Act.put,q1,q2,q3,q4,q5,q6])
 refine wpAnyH_ready (rs:=[12]) (by kernel_rfl) (by simp) (AllReadyH.cons rfl (fun K hK=>?_) AllReadyH.nil)
 go_simp
 go_at_call 48
 refine KP.out.mono ?_;rintro e w4 ⟨rfl,P4,hi4,hc4,hg4⟩;refine hK.out _ _ hc4 (fun hHeld=>?_);clear hK K hHeld
 (try simp only[Act.put,q1,q2,q3,q4,q5,q6])
 refine tk 13 (.int .i64 0) rfl (by kernel_rfl) (fun _ _ _ h=>h) (Or.inl ⟨by rfl,?_⟩) (by assumption) ?_
 . intro W hM;go_simp
 (try simp only[Act.put,q1,q2,q3,q4,q5,q6])
 refine wpAnyH_done (by kernel_rfl) ?_ _;go_wp2;go_ret;exact⟨rfl,P4,hi4,hc4,HG.out.trans (hg4.1.pm _),hg4.2⟩
end
theorem Chg.inner2{W w1 w2:World}{P P1 P' Q:Nat->Prop}(hb:Chg P P1 W w1)(hc:Chg (PM P1 Q) (PM P' Q) w1 w2)(hQ:∀ k,Q k->W.heap.size<=k):Chg P P' W w2:=
 ⟨hc.os.trans hb.os,hc.tape.trans hb.tape,hc.output.trans hb.output,Nat.le_trans hb.size hc.size,fun k hk hn=>by
   obtain⟨a,b⟩:=hb.keep k hk hn;have:=hc.keep k (Nat.lt_of_lt_of_le hk hb.size) fun h=>h.elim b fun h=>by have:=hQ k h;omega
   exact⟨this.1.trans a,fun h=>this.2 (.inl h)⟩⟩
theorem FarA.chg{w w':World}{B bc bg:Nat}{P P':Nat->Prop}{fv:Value}{F:List Int}(h:FarA w B bc P fv F bg)(hc:Chg P P' w w'):FarA w' B bc P' fv F bg:=by
 obtain⟨f1,f2,f3,f4,f5,f6⟩:=h;have:=hc.keep bg (Array.getElem?_eq_some_iff.1 f6).1 f4;exact⟨f1,f2,f3,this.2,f5,this.1.trans f6⟩
theorem FarA.low{w w':World}{B bc bg:Nat}{P:Nat->Prop}{fv:Value}{F:List Int}(h:FarA w B bc P fv F bg)(hb:Below w.heap.size w w'):FarA w' B bc P fv F bg:=
 ⟨h.1,h.2.1,h.2.2.1,h.2.2.2.1,h.2.2.2.2.1,Zad h.2.2.2.2.2 hb⟩
theorem FsAt.ne_io{w:World}{bf bg:Nat}{p:Value}{F:List Int}(h:FsAt w bf p)(hg:w.heap[bg]? =some (iO F 3))(h1:F.length=128):bf≠bg:=fun e=>by
 rw[<- e,h] at hg;have:=congrArg (fun o=>match o with |some (Obj.cells cs _ _)=>cs.size|_=>0) hg;simp[iO,iC,h1] at this
section
variable {w:World}{P:Nat->Prop}{d p:Value}{X:XSt}{S:List Int}{N:List (List Int)}{bf:Nat}
def putB(X:XSt)(m:Nat)(l:List Int):XSt:={ X with call:=X.call.set m l,put:=addS X.put (m:Nat) }
theorem sPut_b(h:SInv w P d p X)(hw:X.wi=true)(hp:X.put.length<37){m:Nat}(hm:m<X.is.length)(hm7:m<768)(ho:OutJ m){l:List Int}(hl:l.length=256){u:Value}(hu:BSl w u l):
 Calls Tryz.prog 67 #[p,.int .i64 m,u] w fun e w'=>e=.returned (.int .i64 0)/\∃ P',SInv w' P' d p (putB X m l)/\Chg P P' w w':=by
 have:=sPut_of h hu (n:=(m:Int)) (by omega) (by rw[Int.toNat_natCast];exact ho);rw[xPut_ok (X:=X) (n:=(m:Int)) (l:=l) hw (by omega) (by omega) hl hp] at this;exact this
theorem chSet_far(h:SInv w P d p X)(hw:X.wi=true)(hp:X.put.length<37)(hf:FsAt w bf p){n:Nat}{bc bg B:Nat}{x F:List Int}{fv:Value}(hc:ChAt w bc bf n x fv)(hnb:¬ P bc)(hF:FarA w B bc P fv F bg){i:Nat}(h10:10<=i)(hi:i<138){v:Int}(hL:locS (F.set (i-10) v)=true)
 {m:Nat} (hm:num x 13=(m:Int)) (hml:m<X.is.length) (hm7:m<768) (ho:OutJ m):
 Calls Tryz.prog 114 #[.pointer (some ⟨bc,0,none⟩),.int .i64 i,.int .i64 v] w fun e w'=>e=.returned (.int .i64 0)/\∃ P',SInv w' P' d p (putB X m (mapS (F.set (i-10) v)))/\ChAt w' bc bf n x fv/\FarA w' B bc P' fv (F.set (i-10) v) bg/\Chg (PM P (·=bg)) (PM P' (·=bg)) w w'/\¬ P' bc:=by
 obtain⟨f1,f2,f3,f4,rfl,f6⟩:=hF;have hw1:=Wrote.setCell w bg (i-10) (.int .i64 v);have hr1:=io_set f6 (i-10) v;have cj:=Zev f6 (i-10) (by omega);have fj:=io_free f6 (i-10);obtain⟨F2,hF2⟩:∃ F2,F2=F.set (i-10) v:=⟨_,rfl⟩;have hl2:F2.length=128:=by rw[hF2,List.length_set,f1]
 rw[<- hF2] at hr1 hL |-
 obtain⟨j,hj⟩:∃ j,j=i-10:=⟨_,rfl⟩;rw[<- hj] at hw1 hr1 cj fj;have e1:IntKind.i64.wrap ((i:Int)-10)=(j:Int):=by rw[IntWalk.i64_in _ (by omega)];omega
 have e10:¬ (i:Int)<10:=by omega
 have ej:(j:Int)<128:=by omega
 have hi1:=h.wrote hw1 f4;have hf1:FsAt (w.setCell ⟨bg,j,none⟩ (.int .i64 v)) bf p:=(hw1.2.2.2.2 bf (hf.ne_io f6 f1)).trans hf;have hc1:ChAt (w.setCell ⟨bg,j,none⟩ (.int .i64 v)) bc bf n x (.slice (some ⟨bg,0,none⟩) 128 128):=⟨hc.1,hc.2.1,(hw1.2.2.2.2 bc (Ne.symm f3)).trans hc.2.2⟩;have hg1:FarA (w.setCell ⟨bg,j,none⟩ (.int .i64 v)) B bc P (.slice (some ⟨bg,0,none⟩) 128 128) F2 bg:=⟨hl2,f2,f3,f4,rfl,hr1⟩;have cf:=hc.cf;have cf1:=hc1.cf;obtain⟨w1,hww⟩:∃ w1,w1=w.setCell ⟨bg,j,none⟩ (.int .i64 v):=⟨_,rfl⟩;have HWW:=hid hww.symm;rw[<- hww] at hw1 hr1 hi1 hf1 hc1 hg1 cf1;have KE:=hid (iEncM_yes hg1.isl hl2 hL);have HLT:Hid (∀ k,P k->k<w1.heap.size):=hid hi1.lt;have KP:=hid (fun(V:World) (u:Value) (hb:Below w1.heap.size w1 V) (hu:BSl V u (mapS F2))=>sPut_b (hi1.low hb) hw hp hml hm7 ho (l:=mapS F2) (by rw[mapS,Zds]) hu);have HC:Hid (∀ V,Below w1.heap.size w1 V->V.cell? ⟨bc,0,none⟩=some (.pointer (some ⟨bf,0,none⟩))/\V.cell? ⟨bc,15,none⟩=some (.int .i64 (m:Nat))/\V.cell? ⟨bf,0,none⟩=some p):=hid fun V hv=>⟨(hc1.low hv).c0,by rw[(hc1.low hv).cm,hm],(hf1.low hv).cell⟩
 have HE:Hid (∀ (V V':World) (P':Nat->Prop),Below w1.heap.size w1 V->Chg P P' V V'->ChAt V' bc bf n x (.slice (some ⟨bg,0,none⟩) 128 128)/\FarA V' B bc P' (.slice (some ⟨bg,0,none⟩) 128 128) F2 bg/\Chg (PM P (·=bg)) (PM P' (·=bg)) w V'/\¬ P' bc):=hid fun V V' P' hb hg=>
  ⟨((hc1.low hb).chg hg hnb).1,(hg1.low hb).chg hg,(Chg.one (P:=P) hw1).trans ((Chg.of_below hb).trans (hg.pm _)),((hc1.low hb).chg hg hnb).2⟩
 clear h hw hp hf hc hnb f1 f2 f3 f4 f6 hL hm hml hm7 ho hw1 hr1 hl2 hF2 hj hi1 hf1 hc1 hg1 hww h10 hi;go_enter Tryz.func114,Tryz.ntmps114;go_upto_region 5 with(fail)
 rw[HWW.out]
 go_wp2_with (go_at_call 155;refine KE.out.mono ?_;rintro e w2 ⟨u,rfl,hu,hb2⟩
              have hd2:Below w1.heap.size w1 w2.drew:=hb2.drew;have hu2:BSl w2.drew u (mapS F2):=hu.bsl.below ((Below.refl _ _).drew);obtain⟨c0,c15,cb⟩:=HC.out _ hd2)
 go_still_tail 13,(by kernel_rfl)
 go_wp2_with (go_at_call 67;refine(KP.out _ _ hd2 hu2).mono ?_;rintro e w3 ⟨rfl,P3,hi3,hg3⟩)
 go_ret;exact⟨rfl,P3,hi3,HE.out _ _ _ hd2 hg3⟩
end
section
variable {w:World}{P:Nat->Prop}{d p:Value}{X:XSt}{S:List Int}{N:List (List Int)}{O:List (Int × Int)}{kk:Nat}{bf:Nat}
structure Stil (S:List Int) (kk:Nat):Prop where
 top:Top S
 s0:num S 0=64*(kk:Int)
 lim:limS S=64*(kk:Int)
theorem fsTake_yes(h:SInv w P d p X)(hw:X.wi=true)(hp:X.put.length<=35)(hH:Has X.call O kk)(hO:OOk O kk)(hf:FsAt w bf p)(hT:Tab X.call S N)(hS:Stil S kk)(goal:Int){i j:Int}(hi:0<=i/\i<=65535)(hj:0<=j/\j<=65535)(hfo:frmO i j=true)(h0:i≠0)(h6:i≠65535){f:Nat}
 (hc:(cntU O (64*kk):Int)<62*(kk:Int)-42) (hfm:f<64*kk) (hfs:Zit O (64*kk) (Zis (64*kk) goal)=f) (hfx:fixB (f:Int)=false):
 Calls Tryz.prog 154 #[.pointer (some ⟨bf,0,none⟩),.int .i64 goal,.agg #[.int .u16 i,.int .u16 j]] w fun e w'=>e=.returned (.tuple #[.int .i64 f,.int .i64 0])/\∃ P',SInv w' P' d p (putX X (f / 64) (grO (O.set f (i,j)) (f / 64)))/\Chg P P' w w':=by
 have hcur:X.cur=X.call:=by unfold XSt.cur;rw[if_pos hw]
 have hT':Tab X.cur S N:=by rw[hcur];exact hT
 refine(fsTake_any (R:=fun x E V w'=>x=(f:Int)/\E=0/\∃ P',SInv w' P' d p (putX X (f / 64) (grO (O.set f (i,j)) (f / 64)))/\Chg P P' V w') h hf hT' hS.top (Below.refl _ _) ?_ ?_).mono ?_
 . rintro x E V w' b hb hlt ⟨_,_,P',_,hg⟩
   exact(hg.keep b hlt fun hp=>by have:=h.lt _ hp;omega).1
 . intro V hV
   rw[hS.s0,hS.lim];refine(spTake_yes (h.low hV) hw hp hH hO hO.k1 (Nat.le_refl _) (Nat.le_refl _) goal hi hj hfo h0 h6 hc hfm hfs hfx).mono ?_;rintro e w' ⟨rfl,P',hi2,hg⟩;exact⟨(f:Int),0,rfl,rfl,rfl,P',hi2,hg⟩
 . rintro e w' ⟨x,E,V,rfl,hV,rfl,rfl,P',hi2,hg⟩
   exact⟨rfl,P',hi2,(Chg.of_below hV).trans hg⟩
theorem fsTake_full(h:SInv w P d p X)(hw:X.wi=true)(hH:Has X.call O kk)(hO:OOk O kk)(hf:FsAt w bf p)(hT:Tab X.call S N)(hS:Stil S kk)(goal:Int){i j:Int}(hi:0<=i/\i<=65535)(hj:0<=j/\j<=65535)(hfo:frmO i j=true)(h0:i≠0)(h6:i≠65535)
 (hc:62*(kk:Int)-42<=(cntU O (64*kk):Int)):
 Calls Tryz.prog 154 #[.pointer (some ⟨bf,0,none⟩),.int .i64 goal,.agg #[.int .u16 i,.int .u16 j]] w fun e w'=>e=.returned (.tuple #[.int .i64 0,.int .i64 13])/\Below w.heap.size w w':=by
 have hcur:X.cur=X.call:=by unfold XSt.cur;rw[if_pos hw]
 have hT':Tab X.cur S N:=by rw[hcur];exact hT
 have hH':Has X.cur O kk:=by rw[hcur];exact hH
 refine(fsTake_any (R:=fun x E V w'=>x=0/\E=13/\Below V.heap.size V w') h hf hT' hS.top (Below.refl _ _) ?_ ?_).mono ?_
 . rintro x E V w' b hb hlt ⟨_,_,hg⟩
   exact hg.block b hlt
 . intro V hV
   rw[hS.s0,hS.lim];refine(spTake_full (h.low hV) hH' hO hO.k1 (Nat.le_refl _) (Nat.le_refl _) goal hi hj hfo h0 h6 hc).mono ?_;rintro e w' ⟨rfl,hg⟩;exact⟨0,13,rfl,rfl,rfl,hg⟩
 . rintro e w' ⟨x,E,V,rfl,hV,rfl,rfl,hg⟩
   exact⟨rfl,hV.trans (hg.mono hV.size)⟩
theorem chTake_full{W:World}{bc n:Nat}{x:List Int}{fv:Value}(hc:ChAt W bc bf n x fv)(hn:n<48){goal:Int}{a:Nat}(ha:a<=65535){R:World->Prop}
 (hK:∀ V,Below W.heap.size W V->Calls Tryz.prog 154 #[.pointer (some ⟨bf,0,none⟩),.int .i64 goal,.agg #[.int .u16 n,.int .u16 a]] V fun e w'=>e=.returned (.tuple #[.int .i64 0,.int .i64 13])/\Below V.heap.size V w'):
 Calls Tryz.prog 112 #[.pointer (some ⟨bc,0,none⟩),.int .i64 goal,.int .i64 a] W fun e w'=>e=.returned (.tuple #[.int .i64 0,.int .i64 13])/\Below W.heap.size W w':=by
 have KT:=hid hK;have e1:IntKind.u16.wrap (n:Int)=(n:Int):=IntWalk.u16_in _ (by omega);have e2:IntKind.u16.wrap (a:Int)=(a:Int):=IntWalk.u16_in _ (by omega);have HC:Hid (∀ V,Below W.heap.size W V->V.cell? ⟨bc,0,none⟩=some (.pointer (some ⟨bf,0,none⟩))/\V.cell? ⟨bc,1,none⟩=some (.int .i64 n)):=hid fun V hv=>⟨(hc.low hv).c0,(hc.low hv).c1⟩
 have hd:Below W.heap.size W W.drew:=(Below.refl _ _).drew;have s0:=HC.out _ hd;clear hc hn ha hK;go_enter Tryz.func112,Tryz.ntmps112;go_wp2
 go_region_held3 (fun V=>V.cell? ⟨bc,0,none⟩=some (.pointer (some ⟨bf,0,none⟩))/\V.cell? ⟨bc,1,none⟩=some (.int .i64 n)) (first|exact s0|exact s2) (first
  |(go_at_call 154;(with_reducible refine(KT.out _ hd).mono ?_);rintro e w2 ⟨rfl,hb2⟩;have hb02:=hd.trans (hb2.mono hd.size);have s2:=HC.out _ hb02))
 all_goals
  go_wp2;go_ret2;exact⟨rfl,hb02⟩
theorem chTake_yes{W:World}{bc n:Nat}{x:List Int}{fv:Value}(hc:ChAt W bc bf n x fv)(hnb:¬ P bc)(hf:FsAt W bf p)(hnf:¬ P bf)(hn:n<48){goal:Int}{a:Nat}(ha:a<=65535){X1:XSt}{f:Nat}(hlt:∀ k,P k->k<W.heap.size)
 (hK:∀ V,Below W.heap.size W V->Calls Tryz.prog 154 #[.pointer (some ⟨bf,0,none⟩),.int .i64 goal,.agg #[.int .u16 n,.int .u16 a]] V fun e w'=>e=.returned (.tuple #[.int .i64 f,.int .i64 0])/\∃ P',SInv w' P' d p X1/\Chg P P' V w')
 (hw:X1.wi=true) (hp:X1.put.length<37) (hm:f<X1.is.length) (hm7:f<768) (ho:OutJ f):
 Calls Tryz.prog 112 #[.pointer (some ⟨bc,0,none⟩),.int .i64 goal,.int .i64 a] W fun e w'=>e=.returned (.tuple #[.int .i64 f,.int .i64 0])/\∃ P',SInv w' P' d p (putB X1 f z256)/\Chg P P' W w':=by
 have KT:=hid hK;have e1:IntKind.u16.wrap (n:Int)=(n:Int):=IntWalk.u16_in _ (by omega);have e2:IntKind.u16.wrap (a:Int)=(a:Int):=IntWalk.u16_in _ (by omega);have HC:Hid (∀ V P',Chg P P' W V->V.cell? ⟨bc,0,none⟩=some (.pointer (some ⟨bf,0,none⟩))/\V.cell? ⟨bc,1,none⟩=some (.int .i64 n)/\V.cell? ⟨bf,0,none⟩=some p):=hid fun V P' hv=>⟨(hc.chg hv hnb).1.c0,(hc.chg hv hnb).1.c1,(hf.chg hv hnf).1.cell⟩
 have hd:Below W.heap.size W W.drew:=(Below.refl _ _).drew;have hcd:Chg P P W W.drew:=Chg.of_below hd;have s0:=HC.out _ _ hcd;obtain⟨Z,hZ⟩:∃ Z,Z=Array.replicate 256 (Value.int .u8 0):=⟨_,rfl⟩;have hmk:=fun W=>make_n W 256 (by decide) 256 rfl
 have KP:Hid (∀ (V:World) (P1:Nat->Prop),SInv V P1 d p X1->Calls Tryz.prog 67 #[p,.int .i64 f,.slice (some ⟨V.heap.size,0,none⟩) 256 256] (V.alloc (.cells Z 5)).drew fun e w'=>e=.returned (.int .i64 0)/\∃ P',SInv w' P' d p (putB X1 f z256)/\Chg P1 P' V w'):=hid fun V P1 hi=>by
  have hb:=Zaa V (.cells Z 5);have hr:=heap_alloc_new V (.cells Z 5);rw[hZ] at hb hr |-
  have hb2:=hb.drew;exact(sPut_b (hi.low hb2) hw hp hm hm7 ho (l:=z256) List.length_replicate (bsl_zero hr)).mono fun e w' ⟨he,P',hi',hg⟩=>⟨he,P',hi',(Chg.of_below hb2).trans hg⟩
 rw[<- hZ] at hmk;clear hc hn ha hK hnb hf hnf hlt hw hp hm hm7 ho hZ;go_enter Tryz.func112,Tryz.ntmps112;go_wp2
 go_region_held3 (fun V=>V.cell? ⟨bc,0,none⟩=some (.pointer (some ⟨bf,0,none⟩))/\V.cell? ⟨bc,1,none⟩=some (.int .i64 n)/\V.cell? ⟨bf,0,none⟩=some p) (first|exact s0|exact s2) (first
  |(go_at_call 154;(with_reducible refine(KT.out _ hd).mono ?_);rintro e w2 ⟨rfl,P2,hi2,hg2⟩;have hg02:=hcd.trans hg2;have s2:=HC.out _ _ hg02))
 all_goals
  have HG:=hid hg02;have KP2:=hid (KP.out _ _ hi2);have s3:(w2.drew).cell? ⟨bc,0,none⟩=some (.pointer (some ⟨bf,0,none⟩))/\(w2.drew).cell? ⟨bc,1,none⟩=some (.int .i64 n)/\(w2.drew).cell? ⟨bf,0,none⟩=some p:=s2;have s4:=HC.out _ _ (hg02.trans (Chg.of_below (Zaa w2 (.cells Z 5)).drew));clear hi2 hg2 hg02 hcd s0 s2;go_wp2
  go_region_held3 (fun V=>V.cell? ⟨bc,0,none⟩=some (.pointer (some ⟨bf,0,none⟩))/\V.cell? ⟨bc,1,none⟩=some (.int .i64 n)/\V.cell? ⟨bf,0,none⟩=some p) (first|exact s3|exact s4|exact s5) (first
   |(go_at_call 67;(with_reducible refine KP2.out.mono ?_);rintro e w5 ⟨rfl,P5,hi5,hg5⟩;have s5:=HC.out _ _ (HG.out.trans hg5)))
  all_goals
   go_wp2;go_ret2;exact⟨rfl,P5,hi5,HG.out.trans hg5⟩
end
end Go.Proofs.YtedabomlfcghoaaGreat
namespace Go.Proofs.YtedabomlfcghoaaGreat
set_option maxRecDepth 100000
open Go.RowKit
theorem cntU_set_lt(O:List (Int × Int))(f:Nat)(o:Int × Int):∀ L,L<=f->cntU (O.set f o) L=cntU O L
 |0,_=>rfl
 |L+1,h=>by
  have ih:=cntU_set_lt O f o L (by omega);have e:Zbh (O.set f o) L=Zbh O L:=by unfold Zbh;rw[List.getD_eq_getElem?_getD,List.getElem?_set_ne (by omega),<- List.getD_eq_getElem?_getD]
  unfold cntU;rw[ih,e]
theorem Zkq{O:List (Int × Int)}{f:Nat}{i j:Int}(hfl:f<O.length)(hf:Zbh O f=true)(hx:fixB (f:Int)=false)(h0:i≠0):∀ L,f<L->cntU (O.set f (i,j)) L=cntU O L+1
 |0,h=>absurd h (Nat.not_lt_zero _)
 |L+1,h=>by
  by_cases e:L=f
  . subst e
    have h1:=cntU_set_lt O L (i,j) L (Nat.le_refl _);have h2:Zbh (O.set L (i,j)) L=false:=by unfold Zbh;rw[BM.getD_set _ _ _ _ _ hfl,if_pos rfl];exact decide_eq_false h0
    unfold cntU;rw[h1,h2,hf,hx];simp
  . have ih:=Zkq (j:=j) hfl hf hx h0 L (by omega)
    have h2:Zbh (O.set f (i,j)) L=Zbh O L:=by unfold Zbh;rw[List.getD_eq_getElem?_getD,List.getElem?_set_ne (by omega),<- List.getD_eq_getElem?_getD]
    unfold cntU;rw[ih,h2];omega
theorem cnt_new:∀ kk,kk<5->1<=kk->cntU (newO kk) (64*kk)=6:=by decide +kernel
end Go.Proofs.YtedabomlfcghoaaGreat
namespace Go.Proofs.YtedabomlfcghoaaGreat
set_option maxRecDepth 100000
open Go.RowKit BM
structure Pl (Ex:Nat->Nat->Prop) (G:List (List Int)) (S:List Int) (N:List (List Int)) (O:List (Int × Int)) (kk:Nat) (F:Nat->List Int):Prop where
 has:Has G O kk
 ok:OOk O kk
 tab:Tab G S N
 fi:Fils Ex G S N O kk F
theorem fixB_lo:fixB 0=true/\fixB 63=true:=by unfold fixB;exact⟨decide_eq_true (by omega),decide_eq_true (by omega)⟩
theorem Zeu{f:Nat}(h:fixB (f:Int)=false):f≠0/\f≠63:=by
 constructor
 . intro e;subst e;rw[show((0:Nat):Int)=0 from rfl,fixB_lo.1] at h;cases h
 . intro e;subst e;rw[show((63:Nat):Int)=63 from rfl,fixB_lo.2] at h;cases h
theorem locX_bd{x F:List Int}(hx:frmI x=true)(hF:F.length=128/\locS F=true){i:Nat}(hi:i<139):0<=locX x F i/\locX x F i<=767:=by
 have hz:0<=num zeroI 13/\∀ k,num zeroI k=0:=by
  refine⟨by decide,fun k=>?_⟩;by_cases h:k<14
  . revert k;decide
  . unfold num zeroI
    rw[List.getD_eq_getElem?_getD,List.getElem?_eq_none (by simp;omega)];rfl
 have hf:∀ k,k<128->0<=num F k/\num F k<=767:=fun k hk=>inB_iff.1 ((Zdj F).1 hF.2 k (by omega))
 unfold frmI at hx;by_cases h0:x.getD 0 0=0
 . rw[if_pos h0] at hx
   have e:=of_decide_eq_true hx;unfold locX;rw[e];split
   . rw[hz.2];decide
   . split
     . rw[hz.2];decide
     . exact hf _ (by omega)
 . rw[if_neg h0] at hx
   unfold frmN at hx;simp only[Bool.and_eq_true] at hx;unfold locX;split
   . next h10=>
     by_cases hl:i<((x.drop 3).take 10).length
     . have:=inB_iff.1 ((Zdj _).1 hx.2.2.2.1 i hl)
       have e:((x.drop 3).take 10).getD i 0=num x (3+i):=by
        unfold num;rw[List.getD_eq_getElem?_getD,List.getElem?_take,if_pos h10,List.getElem?_drop,List.getD_eq_getElem?_getD]
       rw[e] at this;exact this
     . have:num x (3+i)=0:=by
        unfold num;rw[List.getD_eq_getElem?_getD,List.getElem?_eq_none];· rfl
        rw[List.length_take,List.length_drop] at hl;omega
       rw[this];decide
   . split
     . exact inB_iff.1 hx.2.2.2.2
     . exact hf _ (by omega)
theorem frmI_loc{x:List Int}(hl:x.length=14)(hx:frmI x=true)(hk:num x 0≠0){a:Nat}(ha:3<=a)(ha2:a<14){v:Int}(hv:0<=v/\v<=767):frmI (x.set a v)=true:=by
 have hn:∀ b,b≠a->(x.set a v).getD b 0=x.getD b 0:=fun b hb=>by
  have:=Zav (x:=x) (a:=a) (by omega) v b;unfold num at this;rw[this,if_neg hb]
 unfold frmI at hx |-
 unfold num at hk;rw[if_neg hk] at hx;rw[hn 0 (by omega),hn 1 (by omega),hn 2 (by omega),if_neg hk];unfold frmN at hx |-
 simp only[Bool.and_eq_true] at hx |-
 have h13:inB ((x.set a v).getD 13 0)=true:=by
  by_cases e:a=13
  . subst e
    have:=Zav (x:=x) (a:=13) (by omega) v 13;unfold num at this;rw[this,if_pos rfl];exact inB_iff.2 hv
  . rw[hn 13 (Ne.symm e)];exact hx.2.2.2.2
 refine⟨hx.1,hx.2.1,hx.2.2.1,?_,h13⟩;rw[Zdj];intro j hj;have hj10:j<10:=by rw[List.length_take] at hj;omega
 have e:((x.set a v).drop 3 |>.take 10).getD j 0=num (x.set a v) (3+j):=by
  unfold num;rw[List.getD_eq_getElem?_getD,List.getElem?_take,if_pos hj10,List.getElem?_drop,List.getD_eq_getElem?_getD]
 have e2:((x.drop 3).take 10).getD j 0=num x (3+j):=by
  unfold num;rw[List.getD_eq_getElem?_getD,List.getElem?_take,if_pos hj10,List.getElem?_drop,List.getD_eq_getElem?_getD]
 rw[e,Zav (by omega)];split
 . exact inB_iff.2 hv
 . rw[<- e2]
   exact(Zdj _).1 hx.2.2.2.1 j (by rw[List.length_take,List.length_drop] at hj |-;rw[List.length_set] at hj;exact hj)
theorem locS_set{F:List Int}(h:locS F=true)(a:Nat){v:Int}(hv:0<=v/\v<=767):locS (F.set a v)=true:=by
 unfold locS at h |-
 rw[List.all_eq_true] at h |-
 intro y hy;rcases List.mem_or_eq_of_mem_set hy with h1|h1
 . exact h y h1
 . rw[h1];exact inB_iff.2 hv
section
variable {G:List (List Int)}{S:List Int}{N:List (List Int)}{O:List (Int × Int)}{kk:Nat}{F:Nat->List Int}
theorem own_lt{O:List (Int × Int)}{k:Nat}(h:OOk O k){v:Nat}(hv:(O.getD v (0,0)).1≠0):v<64*k:=by
 apply Classical.byContradiction;intro hn;apply hv;rw[List.getD_eq_getElem?_getD,List.getElem?_eq_none (by rw[h.len];omega)];rfl
theorem own_open{O:List (Int × Int)}{k:Nat}(h:OOk O k){v:Nat}(h1:1<=(O.getD v (0,0)).1)(h2:(O.getD v (0,0)).1<48):fixB (v:Int)=false:=by
 rw[<- h.fx v (own_lt h (by omega))];exact decide_eq_false (by omega)
theorem putG_at(G:List (List Int)){g:Nat}(hg:g<12)(D:List (Int × Int)){v:Nat}(hv:fixB (v:Int)=false):(putG G g D).getD v []=G.getD v []:=by
 have hx:=Zkk hg;unfold putG;rw[Zaf _ _ _ fun e=>?_,Zaf _ _ _ fun e=>?_]
 . rw[e,hx.2.1] at hv;cases hv
 . rw[e,hx.1] at hv;cases hv
theorem putG_len(G:List (List Int))(g:Nat)(D:List (Int × Int)):(putG G g D).length=G.length:=by unfold putG;rw[List.length_set,List.length_set]
def takG(G:List (List Int))(O:List (Int × Int))(f:Nat)(q:Int × Int):List (List Int):=(putG G (f / 64) (grO (O.set f q) (f / 64))).set f z256
theorem Pl.take(h:Pl noEx G S N O kk F){f:Nat}(hf:Zbh O f=true)(hx:fixB (f:Int)=false)(hk:f<64*kk){i j:Int}(hi:0<=i/\i<=65535)(hj:0<=j/\j<=65535)(hfo:frmO i j=true)(h0:i≠0)(h6:i≠65535):
 Pl noEx (takG G O f (i,j)) S N (O.set f (i,j)) kk F/\OwAt (O.set f (i,j)) kk f (i,j)/\(takG G O f (i,j)).getD f []=z256/\cntU (O.set f (i,j)) (64*kk)=cntU O (64*kk)+1/\DataK O (O.set f (i,j)) G (takG G O f (i,j)):=by
 have h12:=h.ok.k12;have hlO:f<O.length:=by rw[h.ok.len];exact hk
 have hne:=Zeu hx;have hG:f<G.length:=by rw[h.has.len];exact hk
 have hgl:=putG_len G (f / 64) (grO (O.set f (i,j)) (f / 64));refine⟨⟨(h.has.put hk _).other h12 (.inr (.inr hx)) _,h.ok.set hk hx hi hj hfo h6,?_,?_⟩,⟨by omega,hx,by rw[Int.toNat_natCast,getD_set _ _ _ _ _ hlO,if_pos rfl]⟩,?_,Zkq hlO hf hx h0 _ hk,fun v a b c e=>?_⟩
 . refine(h.tab.putG (show f / 64<12 by omega) _).same (by unfold takG;rw[List.length_set]) fun v hv=>Zaf _ _ _ ?_
   rcases hv with rfl|rfl| ⟨t,ht,rfl⟩
   . exact Ne.symm hne.1
   . exact Ne.symm hne.2
   . intro e
     have:=h.fi.tb t ht;unfold Zbh at hf;rw[e] at this;rw[this] at hf;cases of_decide_eq_true hf
 . refine(h.fi.take hf hk h12 _).data (fun n h1 h48 hm e=>?_) _
   have ho:=h.fi.map h1 h48 id hm;have:=Zlh (by omega) ho;rw[e,hf] at this;cases this
 . unfold takG
   rw[getD_set _ _ _ _ _ (by rw[hgl];exact hG),if_pos rfl]
 . have hvf:v≠f:=fun e2=>by
    rw[e2] at e a;unfold Zbh at hf;rw[<- e,of_decide_eq_true hf] at a;cases a
   unfold takG;rw[Zaf _ _ _ hvf,putG_at _ (by omega) _ (own_open h.ok (v:=v) (by rw[e];exact a) (by rw[e];exact b))]
def nodG(G:List (List Int))(S:List Int)(N:List (List Int))(n:Nat)(y:List Int):List (List Int):=G.set (Zbq S (n / 8)) (encT (inT (N.set n y) (n / 8)))
theorem Pl.node{Ex:Nat->Nat->Prop}(h:Pl Ex G S N O kk F){n:Nat}(h1:1<=n)(h48:n<48){y:List Int}(hy:y.length=14)(hfy:frmI y=true)(hE:∀ a b,Ex a b->a=n)
 (hm0:num y 13=0->F n=List.replicate 128 0) (hm1:num y 13≠0->G.getD (num y 13).toNat []=mapS (F n))
 (how:∀ i,i<139->locX y (F n) i≠0->OwAt O kk (locX y (F n) i) ((n:Int),atX i)):
 Pl noEx (nodG G S N n y) S (N.set n y) O kk F/\DataK O O G (nodG G S N n y):=by
 have hin:=Zdh h.tab.sf (show n / 8<6 by omega);refine⟨⟨h.has.other h.ok.k12 (.inr (.inr hin.2.2.2.1)) _,h.ok,h.tab.putI h48 hy hfy,h.fi.node h1 h48 h.tab.n.len hE hm0 hm1 how _⟩,fun v a b c e=>?_⟩;unfold nodG;refine Zaf _ _ _ fun e2=>?_
 rw[e2,h.fi.tb _ (show n / 8<6 by omega)] at b;simp only at b;omega
theorem Pl.far{Ex:Nat->Nat->Prop}(h:Pl Ex G S N O kk F){n:Nat}(h1:1<=n)(h48:n<48){m:Nat}(hm:num (N.getD n []) 13=(m:Int))(hm0:m≠0)(hmE:¬ Ex n 138){L:List Int}(hL:L.length=128)(hf:locS L=true)(hE:∀ a b,Ex a b->a=n)
 (how:∀ i,10<=i->i<138->num L (i-10)≠0->OwAt O kk (num L (i-10)) ((n:Int),atX i)) (hEd:∀ i,i<10->¬ Ex n i):
 Pl noEx (G.set m (mapS L)) S N O kk (setF F n L)/\DataK O O G (G.set m (mapS L)):=by
 have ho:=h.fi.map h1 h48 hmE (by rw[hm];omega);rw[hm] at ho;have hne:=Zeu ho.2.1;have hG:m<G.length:=by rw[h.has.len];have:=ho.1;omega
 refine⟨⟨h.has.other h.ok.k12 (.inr (.inr ho.2.1)) _,h.ok,h.tab.same (by rw[List.length_set]) fun v hv=>Zaf _ _ _ ?_,h.fi.far h1 h48 hm hm0 hmE hG hL hf hE how hEd⟩,fun v a b c e=>?_⟩
 . rcases hv with rfl|rfl| ⟨t,ht,rfl⟩
   . exact Ne.symm hne.1
   . exact Ne.symm hne.2
   . intro e
     have h2:=h.fi.tb t ht;have h3:=ho.2.2;rw[Int.toNat_natCast,<- e,h2] at h3;have:=(Prod.mk.inj h3).1;omega
 . refine Zaf _ _ _ fun e2=>c ?_
   have h3:=ho.2.2;rw[Int.toNat_natCast,<- e2] at h3;rw[h3]
def givG(G:List (List Int))(O:List (Int × Int))(f:Nat):List (List Int):=putG G (f / 64) (grO (O.set f (0,0)) (f / 64))
theorem Pl.give(h:Pl noEx G S N O kk F){n i:Nat}(h1:1<=n)(h48:n<48)(hi:i<139){f:Nat}(hl:locX (N.getD n []) (F n) i=(f:Int))(h0:f≠0):
 Pl (fun a b=>a=n/\b=i) (givG G O f) S N (O.set f (0,0)) kk F/\Zbh O f=false/\fixB (f:Int)=false/\f<64*kk/\cntU O (64*kk)=cntU (O.set f (0,0)) (64*kk)+1/\DataK O (O.set f (0,0)) G (givG G O f)/\Less O (O.set f (0,0)):=by
 have ho:=h.fi.ow n i h1 h48 hi id (by rw[hl];omega);rw[hl] at ho;have hk:f<64*kk:=by have:=ho.1;omega
 have hlO:f<O.length:=by rw[h.ok.len];exact hk
 have hfr:Zbh O f=false:=Zlh (by omega) ho;have hO2:O=(O.set f (0,0)).set f ((n:Int),atX i):=by
  rw[List.set_set];apply List.ext_getElem (by rw[List.length_set]);intro k h3 h4;rw[List.getElem_set];split
  . next e=>
    subst e;have:=ho.2.2;rw[Int.toNat_natCast,List.getD_eq_getElem?_getD,List.getElem?_eq_getElem h3] at this;exact this
  . rfl
 have hc:cntU O (64*kk)=cntU (O.set f (0,0)) (64*kk)+1:=by
  have:=Zkq (O:=O.set f (0,0)) (f:=f) (i:=(n:Int)) (j:=atX i) (by rw[List.length_set];exact hlO) (by unfold Zbh;rw[getD_set _ _ _ _ _ hlO,if_pos rfl];rfl) ho.2.1 (by omega) (64*kk) hk;rw[<- hO2] at this;exact this
 refine⟨⟨h.has.put hk _,h.ok.set hk ho.2.1 (by decide) (by decide) (by decide) (by decide),h.tab.putG (show f / 64<12 by have:=h.ok.k12;omega) _,h.fi.give h1 h48 hi h.ok.k12 hl h0 _⟩,hfr,ho.2.1,hk,hc,fun v a b c e=>?_,fun v=>?_⟩
 . exact putG_at _ (by have:=h.ok.k12;omega) _ (own_open h.ok (v:=v) (by rw[e];exact a) (by rw[e];exact b))
 . rw[getD_set _ _ _ _ _ hlO]
   split
   . exact .inr rfl
   . exact .inl rfl
def PutS(X:XSt)(Q:List Int):Prop:=X.put.Nodup/\∀ a∈X.put,a∈Q
end
theorem nodup_le:∀ (l Q:List Int),l.Nodup->(∀ a∈l,a∈Q)->l.length<=Q.length
 |[],_,_,_=>Nat.zero_le _
 |a :: l,Q,hn,h=>by
  obtain⟨h1,h2⟩:=List.nodup_cons.1 hn;have ha:=h a (List.mem_cons_self);have:=nodup_le l (Q.erase a) h2 fun b hb=>(List.mem_erase_of_ne (by rintro rfl;exact h1 hb)).2 (h b (List.mem_cons_of_mem _ hb))
  rw[List.length_erase_of_mem ha] at this;have:=List.length_pos_of_mem ha;simp only[List.length_cons];omega
theorem PutS.le{X:XSt}{Q:List Int}(h:PutS X Q):X.put.length<=Q.length:=nodup_le _ _ h.1 h.2
theorem addS_nodup{l:List Int}(h:l.Nodup)(n:Int):(addS l n).Nodup:=by
 unfold addS;split
 . exact h
 . next hn=>exact List.nodup_append.2 ⟨h,by simp,fun a ha c hc e=>hn (by simp at hc;rw[<- hc,<- e];exact ha)⟩
theorem addS_mem14{l:List Int}{n a:Int}(h:a∈addS l n):a∈l\/a=n:=by
 unfold addS at h;split at h
 . exact .inl h
 . rcases List.mem_append.1 h with h|h
   . exact .inl h
   . exact .inr (by simpa using h)
theorem PutS.add{X X':XSt}{Q:List Int}(h:PutS X Q){n:Int}(hn:n∈Q)(e:X'.put=addS X.put n):PutS X' Q:=
 ⟨by rw[e];exact addS_nodup h.1 n,fun a ha=>by
   rw[e] at ha;rcases addS_mem14 ha with h2|h2
   . exact h.2 a h2
   . rw[h2];exact hn⟩
theorem PutS.wide{X:XSt}{Q Q':List Int}(h:PutS X Q)(hq:∀ a∈Q,a∈Q'):PutS X Q':=⟨h.1,fun a ha=>hq a (h.2 a ha)⟩
theorem frmO_at{n:Nat}(h1:1<=n)(h48:n<48){i:Nat}(hi:i<139):frmO (n:Int) (atX i)=true:=by
 unfold frmO;rw[if_neg (by omega),if_neg (by omega),Bool.and_eq_true,Bool.or_eq_true,decide_eq_true_eq,decide_eq_true_eq,decide_eq_true_eq];refine⟨by omega,?_⟩;unfold atX;split
 . exact .inr rfl
 . exact .inl (by omega)
theorem Zjz{x F:List Int}(hx:x.length=14){i:Nat}(hi:i<10)(v:Int)(b:Nat):locX (x.set (3+i) v) F b=if b=i then v else locX x F b:=by
 unfold locX;by_cases hb:b<10
 . rw[if_pos hb,if_pos hb,Zav (by omega)]
   by_cases e:b=i
   . rw[if_pos e,if_pos (by omega)]
   . rw[if_neg e,if_neg (by omega)]
 . have e:num (x.set (3+i) v) 13=num x 13:=by rw[Zav (by omega),if_neg (by omega)]
   rw[if_neg hb,if_neg hb,e,if_neg (show ¬ b=i by omega)]
theorem Zka{x F:List Int}(hx:x.length=14)(v:Int)(b:Nat):locX (x.set 13 v) F b=if b=138 then v else locX x F b:=by
 unfold locX;by_cases hb:b<10
 . rw[if_pos hb,if_pos hb,Zav (by omega),if_neg (by omega),if_neg (by omega)]
 . rw[if_neg hb,if_neg hb,Zav (by omega),if_pos rfl]
   split <;> rfl
theorem Zkb{x F:List Int}(hF:F.length=128){i:Nat}(h10:10<=i)(hi:i<138)(v:Int)(b:Nat):locX x (F.set (i-10) v) b=if b=i then v else locX x F b:=by
 unfold locX;by_cases hb:b<10
 . rw[if_pos hb,if_pos hb,if_neg (by omega)]
 . rw[if_neg hb,if_neg hb]
   by_cases h138:b=138
   . rw[if_pos h138,if_pos h138,if_neg (by omega)]
   . rw[if_neg h138,if_neg h138,Zav (by omega)]
     by_cases e:b=i
     . rw[if_pos e,if_pos (by omega)]
     . rw[if_neg e,if_neg (by omega)]
theorem Zkx{x y F F':List Int}{i:Nat}(hi:i<139)(h0:locX x F i=0){v:Int}(hv:v≠0)(h:∀ b,b<139->locX y F' b=if b=i then v else locX x F b):Zjo y F'=Zjo x F+1:=
 Zif h0 (by rw[h i hi,if_pos rfl];exact hv) 139 hi fun j hj hne=>by rw[h j hj,if_neg hne]
structure Stp (S:List Int) (kk:Nat) (G N:List (List Int)) (O:List (Int × Int)) (F:Nat->List Int) (n:Nat) (G' N':List (List Int)) (O':List (Int × Int)) (F':Nat->List Int):Prop where
 pl:Pl noEx G' S N' O' kk F'
 hd:∀ j,j<3->num (N'.getD n []) j=num (N.getD n []) j
 oth:∀ m,m≠n->N'.getD m []=N.getD m []/\F' m=F m
 cnt:cntU O' (64*kk)+Zjo (N.getD n []) (F n)=cntU O (64*kk)+Zjo (N'.getD n []) (F' n)
 dat:DataK O O' G G'
 old:∀ u:Nat,(O.getD u (0,0)).1≠0->O'.getD u (0,0)=O.getD u (0,0)
section
variable {G:List (List Int)}{S:List Int}{N:List (List Int)}{O:List (Int × Int)}{kk:Nat}{F:Nat->List Int}
theorem Stp.trans{n:Nat}{G1 N1 G2 N2:List (List Int)}{O1 O2:List (Int × Int)}{F1 F2:Nat->List Int}(h:Stp S kk G N O F n G1 N1 O1 F1)(k:Stp S kk G1 N1 O1 F1 n G2 N2 O2 F2):Stp S kk G N O F n G2 N2 O2 F2:=
 ⟨k.pl,fun j hj=>(k.hd j hj).trans (h.hd j hj),fun m hm=>⟨(k.oth m hm).1.trans (h.oth m hm).1,(k.oth m hm).2.trans (h.oth m hm).2⟩,by have:=h.cnt;have:=k.cnt;omega,
  fun v a b c e=>by
   have e1:O1.getD v (0,0)=O.getD v (0,0):=h.old v (by rw[e];omega);have e2:O1.getD v (0,0)=O2.getD v (0,0):=e1.trans e;rw[k.dat v a b c e2,h.dat v (by rw[e2];exact a) (by rw[e2];exact b) (by rw[e2];exact c) e1.symm],
  fun u hu=>by
   have e1:=h.old u hu;rw[k.old u (by rw[e1];exact hu),e1]⟩
structure FreeB (O:List (Int × Int)) (kk f:Nat):Prop where
 fr:Zbh O f=true
 fx:fixB (f:Int)=false
 lt:f<64*kk
theorem old_set{f:Nat}(hf:Zbh O f=true)(hl:f<O.length)(q:Int × Int)(u:Nat)(hu:(O.getD u (0,0)).1≠0):(O.set f q).getD u (0,0)=O.getD u (0,0):=by
 rw[getD_set _ _ _ _ _ hl,if_neg];intro e;subst e;unfold Zbh at hf;exact hu (of_decide_eq_true hf)
theorem Pl.mapNear(h:Pl noEx G S N O kk F){n i f:Nat}(h1:1<=n)(h48:n<48)(hk:Zbf N n≠0)(hi:i<10)(h0:locX (N.getD n []) (F n) i=0)(hf:FreeB O kk f):
 Stp S kk G N O F n (nodG (takG G O f (n,i)) S N n ((N.getD n []).set (3+i) f)) (N.set n ((N.getD n []).set (3+i) f)) (O.set f (n,i)) F/\frmI ((N.getD n []).set (3+i) f)=true/\
  (nodG (takG G O f (n,i)) S N n ((N.getD n []).set (3+i) f)).getD f []=z256:=by
 have hx:=h.tab.n.get h48;have hfx:=h.tab.n.frm n h48;have h12:=h.ok.k12;have hfl:=hf.lt;have hf0:=(Zeu hf.fx).1;have hat:((i:Nat):Int)=atX i:=by unfold atX;rw[if_neg (by omega)]
 obtain⟨t1,t2,t3,t4,t5⟩:=h.take hf.fr hf.fx hf.lt (i:=(n:Int)) (j:=(i:Int)) (by omega) (by omega) (by rw[hat];exact frmO_at h1 h48 (by omega)) (by omega) (by omega);have hfy:=frmI_loc hx hfx hk (a:=3+i) (by omega) (by omega) (v:=(f:Int)) (by omega);have hloc:=fun b=>Zjz (F:=F n) hx hi (f:Int) b
 have hm:num ((N.getD n []).set (3+i) (f:Int)) 13=num (N.getD n []) 13:=by rw[Zav (by omega),if_neg (by omega)]
 obtain⟨s1,s2⟩:=t1.node h1 h48 (y:=(N.getD n []).set (3+i) (f:Int)) (by rw[List.length_set];exact hx) hfy (fun a b e=>e.elim)
  (by rw[hm];exact h.fi.m0 n h1 h48) (by rw[hm];exact t1.fi.m1 n h1 h48) (fun b hb hz=>by
    rw[hloc] at hz |-
    split
    . next e=>subst e;rw[<- hat];exact t2
    . next e=>rw[if_neg e] at hz;exact t1.fi.ow n b h1 h48 hb id hz)
 have hn:n<N.length:=by rw[h.tab.n.len];exact h48
 refine⟨⟨s1,fun j hj=>?_,fun m hm=>⟨Zaf _ _ _ hm,rfl⟩,?_,?_,old_set hf.fr (by rw[h.ok.len];exact hf.lt) _⟩,hfy,?_⟩
 . rw[Zcm hn,if_pos rfl,Zav (by omega),if_neg (by omega)]
 . rw[Zcm hn,if_pos rfl,t4,Zkx (i:=i) (by omega) h0 (v:=(f:Int)) (by omega) fun b _=>hloc b];omega
 . exact t5.less s2 (Less.refl _)
 . have e:=t2.2.2
   rw[Int.toNat_natCast] at e;rw[s2 f (by rw[e];simp only;omega) (by rw[e];simp only;omega) (by rw[e];simp only;omega) rfl,t3]
theorem Pl.mapFar(h:Pl noEx G S N O kk F){n i f m:Nat}(h1:1<=n)(h48:n<48)(h10:10<=i)(hi:i<138)(h0:locX (N.getD n []) (F n) i=0)(hf:FreeB O kk f)(hm:num (N.getD n []) 13=(m:Int))(hm0:m≠0):
 Stp S kk G N O F n ((takG G O f (n,i)).set m (mapS ((F n).set (i-10) f))) N (O.set f (n,i)) (setF F n ((F n).set (i-10) f))/\locS ((F n).set (i-10) f)=true/\
  ((takG G O f (n,i)).set m (mapS ((F n).set (i-10) f))).getD f []=z256:=by
 have h12:=h.ok.k12;have hfl:=hf.lt;have hf0:=(Zeu hf.fx).1;have hat:((i:Nat):Int)=atX i:=by unfold atX;rw[if_neg (by omega)]
 obtain⟨t1,t2,t3,t4,t5⟩:=h.take hf.fr hf.fx hf.lt (i:=(n:Int)) (j:=(i:Int)) (by omega) (by omega) (by rw[hat];exact frmO_at h1 h48 (by omega)) (by omega) (by omega);have hF:=h.fi.fl n;have hloc:=fun b=>Zkb (x:=N.getD n []) hF.1 h10 hi (f:Int) b
 have hL:=locS_set hF.2 (i-10) (v:=(f:Int)) (by omega);obtain⟨s1,s2⟩:=t1.far h1 h48 hm hm0 id (L:=(F n).set (i-10) (f:Int)) (by rw[List.length_set];exact hF.1) hL (fun a b e=>e.elim) (fun b hb10 hb hz=>by
  have e:num ((F n).set (i-10) (f:Int)) (b-10)=locX (N.getD n []) ((F n).set (i-10) (f:Int)) b:=by unfold locX;rw[if_neg (by omega),if_neg (by omega)]
  rw[e,hloc] at hz |-
  split
  . next e=>subst e;rw[<- hat];exact t2
  . next e=>rw[if_neg e] at hz;exact t1.fi.ow n b h1 h48 (by omega) id hz) (fun b hb=>id)
 refine⟨⟨s1,fun j hj=>rfl,fun a ha=>⟨rfl,setF_ne F ha _⟩,?_,t5.less s2 (Less.refl _),old_set hf.fr (by rw[h.ok.len];exact hf.lt) _⟩,hL,?_⟩
 . rw[Zja,t4,Zkx (i:=i) (by omega) h0 (v:=(f:Int)) (by omega) fun b _=>hloc b];omega
 . have e:=t2.2.2
   rw[Int.toNat_natCast] at e;rw[s2 f (by rw[e];simp only;omega) (by rw[e];simp only;omega) (by rw[e];simp only;omega) rfl,t3]
theorem map_zero:mapS (List.replicate 128 0)=z256:=by decide
theorem Pl.addMap(h:Pl noEx G S N O kk F){n m:Nat}(h1:1<=n)(h48:n<48)(hk:Zbf N n≠0)(h0:num (N.getD n []) 13=0)(hf:FreeB O kk m):
 Stp S kk G N O F n (nodG (takG G O m (n,65535)) S N n ((N.getD n []).set 13 m)) (N.set n ((N.getD n []).set 13 m)) (O.set m (n,65535)) F/\frmI ((N.getD n []).set 13 m)=true:=by
 have hx:=h.tab.n.get h48;have hfx:=h.tab.n.frm n h48;have h12:=h.ok.k12;have hfl:=hf.lt;have hf0:=(Zeu hf.fx).1;obtain⟨t1,t2,t3,t4,t5⟩:=h.take hf.fr hf.fx hf.lt (i:=(n:Int)) (j:=65535) (by omega) (by omega) (frmO_at h1 h48 (i:=138) (by omega)) (by omega) (by omega);have hfy:=frmI_loc hx hfx hk (a:=13) (by omega) (by omega) (v:=(m:Int)) (by omega);have hloc:=fun b=>Zka (F:=F n) hx (m:Int) b
 have hm:num ((N.getD n []).set 13 (m:Int)) 13=(m:Int):=by rw[Zav (by omega),if_pos rfl]
 obtain⟨s1,s2⟩:=t1.node h1 h48 (y:=(N.getD n []).set 13 (m:Int)) (by rw[List.length_set];exact hx) hfy (fun a b e=>e.elim)
  (by rw[hm];intro e;omega) (by rw[hm,Int.toNat_natCast,t3,h.fi.m0 n h1 h48 h0,map_zero];exact fun _=>rfl) (fun b hb hz=>by
    rw[hloc] at hz |-
    split
    . next e=>subst e;exact t2
    . next e=>rw[if_neg e] at hz;exact t1.fi.ow n b h1 h48 hb id hz)
 have hn:n<N.length:=by rw[h.tab.n.len];exact h48
 refine⟨⟨s1,fun j hj=>?_,fun m hm=>⟨Zaf _ _ _ hm,rfl⟩,?_,t5.less s2 (Less.refl _),old_set hf.fr (by rw[h.ok.len];exact hf.lt) _⟩,hfy⟩
 . rw[Zcm hn,if_pos rfl,Zav (by omega),if_neg (by omega)]
 . rw[Zcm hn,if_pos rfl,t4,Zkx (i:=138) (by omega) h0 (v:=(m:Int)) (by omega) fun b _=>hloc b];omega
end
theorem chNone_any(x:Int)(w:World):Calls Tryz.prog 120 #[.int .i64 x] w fun e w'=>e=.returned (.bool (x != 0))/\w=w':=by
 go_enter Tryz.func120,Tryz.ntmps120;go_wp2;go_ret;exact⟨by simp,rfl⟩
def anyN(F:List Int):Bool:=F.any fun x=>x != 0
theorem anyN_no{F:List Int}:anyN F=false ↔ ∀ j,j<F.length->F.getD j 0=0:=by
 unfold anyN;rw[List.any_eq_false];constructor
 . intro h j hj
   have:=h _ (List.getElem_mem hj)
   simpa [List.getD_eq_getElem?_getD,hj] using this
 . intro h x hx
   obtain⟨j,hj,rfl⟩:=List.getElem_of_mem hx;have:=h j hj
   simpa [List.getD_eq_getElem?_getD,hj] using this
theorem anyN_yes{F:List Int}{j:Nat}(hj:j<F.length)(h:F.getD j 0≠0):anyN F=true:=by
 cases e:anyN F
 . exact absurd (anyN_no.1 e j hj) h
 . rfl
theorem slIdxFI_of{w:World}{v:Value}{l:List Int}(hs:ISl w v l)(hl:l.length<=1000000):Calls Tryz.prog 158 #[v,.func (.func 120) #[] #[]] w fun e w'=>(∃ r:Int,e=.returned (.int .i64 r)/\decide (0<=r)=anyN l)/\w=w':=by
 obtain⟨ao,cap,rfl,hc⟩:=hs.open';have hyes:∀ k,k<l.length->l.getD k 0≠0->anyN l=true:=fun k hk h=>anyN_yes hk h
 have hno:(∀ j,j<l.length->l.getD j 0=0)->anyN l=false:=anyN_no.2;obtain⟨R,hR⟩:∃ R,R=anyN l:=⟨_,rfl⟩;rw[<- hR] at hyes hno |-
 obtain⟨N,hN⟩:∃ N,N=l.length:=⟨_,rfl⟩;rw[<- hN] at hc hno hyes hl |-
 have HC:=hid hc;have HNO:=hid hno;have HYE:=hid hyes;have KN:=hid chNone_any;clear hc hno hyes hR hs hN;go_enter Tryz.func158,Tryz.ntmps158;go_wp2
 go_loop [8] (fun i=>∃ k:Nat,k<=N/\i=.int .i64 k/\Hid (∀ j,j<k->l.getD j 0=0)) (fun i=>N-(intOf i).toNat)
 case atStart=>exact⟨0,by omega,rfl,fun j hj=>absurd hj (Nat.not_lt_zero _)⟩
 case round=>
  obtain⟨k,hk,rfl,HK⟩:=hrel;by_cases hlt:k<N
  . obtain⟨b,off,rfl,_,hcc⟩:=HC.out (by omega)
    have hck:=hcc k hlt;have hy1:=HYE.out k hlt;obtain⟨x,hx⟩:∃ x,x=l.getD k 0:=⟨_,rfl⟩;rw[<- hx] at hck hy1;have HX:=hid hx;have HY1:=hid hy1;have ek:(k:Int)<(N:Int):=by omega
    clear hx hcc hy1;obtain⟨B,hB⟩:∃ B,B=(x != 0):=⟨_,rfl⟩;have KN1:=hid (KN.out x w);rw[<- hB] at KN1;cases B
    . have HF:Hid (x=0):=hid (by simpa using hB.symm)
      clear hB;go_wp2_with (go_at_call 120;refine KN1.out.mono ?_;rintro e w' ⟨rfl,rfl⟩)
      go_round
      case rel=>
       refine⟨k+1,by omega,by go_num,fun j hj=>?_⟩;by_cases e:j=k
       . rw[e,<- HX.out];exact HF.out
       . exact HK.out j (by omega)
      case measure=>simp[intOf];omega
    . have hne:x≠0:=by simpa using hB.symm
      have hR:=HY1.out hne;subst hR;clear hB hne;go_wp2_with (go_at_call 120;refine KN1.out.mono ?_;rintro e w' ⟨rfl,rfl⟩)
      go_ret;exact⟨⟨_,rfl,by simp⟩,rfl⟩
  . have hR:=HNO.out fun j hj=>HK.out j (by omega)
    subst hR;obtain rfl:k=N:=by omega
    go_wp2;go_ret;exact⟨⟨_,rfl,by decide⟩,rfl⟩
theorem slContF_of{w:World}{v:Value}{l:List Int}(hs:ISl w v l)(hl:l.length<=1000000){R:Bool}(hR:anyN l=R):Calls Tryz.prog 119 #[v,.func (.func 120) #[] #[]] w fun e w'=>e=.returned (.bool R)/\w=w':=by
 have K:=hid (slIdxFI_of hs hl);rw[hR] at K;clear hs hR;go_enter Tryz.func119,Tryz.ntmps119;go_wp2_with (go_at_call 158;refine K.out.mono ?_;rintro e w' ⟨⟨r,rfl,hr⟩,rfl⟩)
 go_ret;exact⟨by first|(simp [hr];done)|(simp;done)|simpa using hr,rfl⟩
end Go.Proofs.YtedabomlfcghoaaGreat
