/- What the law rests on: part 23. -/
import Derived.Test.YtaakepjgpnaecaaGreatKP22
set_option linter.unusedVariables false
namespace Go.Proofs.YtaakepjgpnaecaaGreat
set_option maxRecDepth 100000
open Go.RowKit BM
section
variable {w:World}{P:Nat->Prop}{d p:Value}{X:XSt}{S:List Int}{N:List (List Int)}{O:List (Int × Int)}{kk:Nat}{bf:Nat}
theorem chAddMap_full {W:World}{bc:Nat} (hK:Calls Tryz.prog 39 #[.pointer (some ⟨bc,0,none⟩),.int .i64 0,.int .i64 65535] W fun e w'=>e=.returned (.tuple #[.int .i64 0,.int .i64 13])/\Below W.heap.size W w'):
 Calls Tryz.prog 38 #[.pointer (some ⟨bc,0,none⟩)] W fun e w'=>e=.returned (.int .i64 13)/\Below W.heap.size W w':=by
 have K:=Lib.hid hK
 clear hK
 go_enter Tryz.func38,Tryz.ntmps38
 go_wp2_with (go_at_call 39;refine K.out.mono ?_;rintro e w' ⟨rfl,hb⟩)
 go_ret
 exact ⟨rfl,hb⟩
set_option maxHeartbeats 1000000 in
theorem chAddMap_yes {bc m:Nat} (hK:Calls Tryz.prog 39 #[.pointer (some ⟨bc,0,none⟩),.int .i64 0,.int .i64 65535] w fun e w'=>e=.returned (.tuple #[.int .i64 m,.int .i64 0])/\∃ P',SInv w' P' d p X/\Chg P P' w w')
 (hw:X.wi=true) (hp:X.put.length<37) (hf:FsAt w bf p) (hnf:¬ P bf) (hT:Tab X.call S N) {n:Nat} (h1:1<=n) (h48:n<48) {x:List Int} {fv:Value} (hc:ChAt w bc bf n x fv) (hnb:¬ P bc) (hfx:frmI (x.set 13 m)=true):
 Calls Tryz.prog 38 #[.pointer (some ⟨bc,0,none⟩)] w fun e w'=>e=.returned (.int .i64 0)/\∃ P',SInv w' P' d p (putI X S N n (x.set 13 m))/\ChAt w' bc bf n (x.set 13 m) fv/\Chg (PM P (·=bc)) (PM P' (·=bc)) w w'/\¬ P' bc:=by
 have K:=Lib.hid hK
 have HX:Hid ((x.set 13 (m:Int)).length=14):=Lib.hid (by rw[List.length_set];exact hc.1)
 have u1:=Tryz.underlying92
 obtain ⟨y,hy⟩:∃ y,y=x.set 13 (m:Int):=⟨_,rfl⟩
 rw[<- hy] at hfx HX |-
 have HC:Hid (∀ V P',Chg P P' w V->V.cell? ⟨bc,15,none⟩=some (.int .i64 (num x 13))/\V.frozen? ⟨bc,15,none⟩=false):=Lib.hid fun V P' hv=>⟨(hc.chg hv hnb).1.cm,(hc.chg hv hnb).1.free 15⟩
 have HD:Hid (∀ V P',Chg P P' w V->SInv V P' d p X->ChAt (V.setCell ⟨bc,15,none⟩ (.int .i64 m)).drew bc bf n y fv/\Chg (PM P (·=bc)) (PM P' (·=bc)) w (V.setCell ⟨bc,15,none⟩ (.int .i64 m)).drew/\
  Calls Tryz.prog 58 #[.pointer (some ⟨bf,0,none⟩),.int .i64 n,.agg (iC y).toArray] (V.setCell ⟨bc,15,none⟩ (.int .i64 m)).drew fun e w'=>e=.returned (.int .i64 0)/\∃ P'',SInv w' P'' d p (putI X S N n y)/\ChAt w' bc bf n y fv/\Chg P' P'' (V.setCell ⟨bc,15,none⟩ (.int .i64 m)).drew w'/\¬ P'' bc):=Lib.hid fun V P' hv hi=>by
  obtain ⟨hc2,hn2⟩:=hc.chg hv hnb
  obtain ⟨hf2,hnf2⟩:=hf.chg hv hnf
  have hw3:=Wrote.setCell V bc 15 (.int .i64 (m:Int))
  have hc3:=hc2.setN (k:=13) (by decide) (m:Int)
  rw[show 2+13=15 by rfl,<- hy] at hc3
  have hd:=(Below.refl (V.setCell ⟨bc,15,none⟩ (.int .i64 (m:Int))).heap.size (V.setCell ⟨bc,15,none⟩ (.int .i64 (m:Int)))).drew
  have hf3:FsAt (V.setCell ⟨bc,15,none⟩ (.int .i64 (m:Int))) bf p:=(hw3.2.2.2.2 bf (hf2.ne_ch hc2)).trans hf2
  exact ⟨hc3.low hd,(hv.pm _).trans ((Chg.one (P:=P') hw3).trans (Chg.of_below hd)),nodeP ((hi.wrote hw3 hn2).low hd) hw hp (hf3.low hd) hT h1 h48 (hc3.low hd) hn2 hfx⟩
 obtain ⟨m0,hm0⟩:∃ m0,m0=num x 13:=⟨_,rfl⟩
 rw[<- hm0] at HC
 clear hK hw hp hf hnf hT h1 h48 hc hnb hfx hy hm0
 go_enter Tryz.func38,Tryz.ntmps38
 go_upto_region 5 with (go_at_call 39;refine K.out.mono ?_;rintro e w2 ⟨rfl,P2,hi2,hg2⟩;obtain ⟨c15,f15⟩:=HC.out _ _ hg2)
 obtain ⟨hS,hg3,hk3⟩:=HD.out _ _ hg2 hi2
 have HG:=Lib.hid hg3
 have KP:=Lib.hid hk3
 clear hg2 hi2 c15 f15 hg3 hk3
 refine wp_region_held_drew (S:=fun W=>ChAt W bc bf n y fv) (by kernel_rfl) hS (fun hHeld=>?_)
 clear hHeld
 refine tk 0 (.pointer (some ⟨bc,0,none⟩)) rfl (by kernel_rfl) (fun _ _ _ h=>h) (Or.inl ⟨by rfl,?_⟩) (by assumption) ?_
 · intro W hM;go_simp
 (try simp only[Act.put,q1,q2,q3,q4,q5,q6])
 refine tk 1 (.pointer (some ⟨bc,0,none⟩)) rfl (by kernel_rfl) (fun _ _ _ h=>h) (Or.inl ⟨by rfl,?_⟩) (by assumption) ?_
 · intro W hM;go_simp
 (try simp only[Act.put,q1,q2,q3,q4,q5,q6])
 refine tk 2 (.pointer (some ⟨bc,0,none⟩)) rfl (by kernel_rfl) (fun _ _ _ h=>h) (Or.inl ⟨by rfl,?_⟩) (by assumption) ?_
 · intro W hM;go_simp
 (try simp only[Act.put,q1,q2,q3,q4,q5,q6])
 refine tk 3 (.pointer (some ⟨bf,0,none⟩)) rfl (by kernel_rfl) (fun _ _ _ h=>h) (Or.inl ⟨by rfl,?_⟩) (by assumption) ?_
 · intro W hM;have f0:=hM.c0;go_simp
 (try simp only[Act.put,q1,q2,q3,q4,q5,q6])
 refine tk 4 (.pointer (some ⟨bc,0,none⟩)) rfl (by kernel_rfl) (fun _ _ _ h=>h) (Or.inl ⟨by rfl,?_⟩) (by assumption) ?_
 · intro W hM;go_simp
 (try simp only[Act.put,q1,q2,q3,q4,q5,q6])
 refine tk 5 (.pointer (some ⟨bc,0,none⟩)) rfl (by kernel_rfl) (fun _ _ _ h=>h) (Or.inl ⟨by rfl,?_⟩) (by assumption) ?_
 · intro W hM;go_simp
 (try simp only[Act.put,q1,q2,q3,q4,q5,q6])
 refine tk 6 (.pointer (some ⟨bc,1,none⟩)) rfl (by kernel_rfl) (fun _ _ _ h=>h) (Or.inl ⟨by rfl,?_⟩) (by assumption) ?_
 · intro W hM;go_simp
 (try simp only[Act.put,q1,q2,q3,q4,q5,q6])
 refine tk 7 (.int .i64 n) rfl (by kernel_rfl) (fun _ _ _ h=>h) (Or.inl ⟨by rfl,?_⟩) (by assumption) ?_
 · intro W hM;have f1:=hM.c1;go_simp
 (try simp only[Act.put,q1,q2,q3,q4,q5,q6])
 refine tk 8 (.pointer (some ⟨bc,0,none⟩)) rfl (by kernel_rfl) (fun _ _ _ h=>h) (Or.inl ⟨by rfl,?_⟩) (by assumption) ?_
 · intro W hM;go_simp
 (try simp only[Act.put,q1,q2,q3,q4,q5,q6])
 refine tk 9 (.pointer (some ⟨bc,0,none⟩)) rfl (by kernel_rfl) (fun _ _ _ h=>h) (Or.inl ⟨by rfl,?_⟩) (by assumption) ?_
 · intro W hM;go_simp
 (try simp only[Act.put,q1,q2,q3,q4,q5,q6])
 refine tk 10 (.pointer (some ⟨bc,2,none⟩)) rfl (by kernel_rfl) (fun _ _ _ h=>h) (Or.inl ⟨by rfl,?_⟩) (by assumption) ?_
 · intro W hM;go_simp
 (try simp only[Act.put,q1,q2,q3,q4,q5,q6])
 refine tk 11 (.agg (iC y).toArray) rfl (by kernel_rfl) (fun _ _ _ h=>h) (yieldsIf_load_mid rfl 92 (.tmp 28) rfl bc 2 rfl (iC y) _ (fun W hW=>hW.rng) u1 rfl (by rw[sizeIn,iC_length,HX.out])) (by assumption) ?_
 (try simp only[Act.put,q1,q2,q3,q4,q5,q6])
 refine wpAnyH_ready (rs:=[12]) (by kernel_rfl) (by simp) (AllReadyH.cons rfl (fun K hK=>?_) AllReadyH.nil)
 go_simp
 go_at_call 58
 refine KP.out.mono ?_
 rintro e w4 ⟨rfl,P4,hi4,hc4,hg4⟩
 refine hK.out _ _ hc4 (fun hHeld=>?_)
 clear hK K hHeld
 (try simp only[Act.put,q1,q2,q3,q4,q5,q6])
 refine tk 13 (.int .i64 0) rfl (by kernel_rfl) (fun _ _ _ h=>h) (Or.inl ⟨by rfl,?_⟩) (by assumption) ?_
 · intro W hM;go_simp
 (try simp only[Act.put,q1,q2,q3,q4,q5,q6])
 refine wpAnyH_done (by kernel_rfl) ?_ _
 go_wp2
 go_ret
 exact ⟨rfl,P4,hi4,hc4,HG.out.trans (hg4.1.pm _),hg4.2⟩
theorem fsGive_yes (h:SInv w P d p X) (hw:X.wi=true) (hp:X.put.length<=35) (hH:Has X.call O kk) (hO:OOk O kk) (hf:FsAt w bf p) {m:Nat} (hm:m<64*kk) (hx:fixB (m:Int)=false) (hfr:freeJ O m=false):
 Calls Tryz.prog 78 #[.pointer (some ⟨bf,0,none⟩),.int .i64 m] w fun e w'=>e=.returned (.int .i64 0)/\∃ P',SInv w' P' d p (putX X (m / 64) (grO (O.set m (0,0)) (m / 64)))/\Chg P P' w w':=
 (fsGive_any (R:=fun E w'=>E=0/\∃ P',SInv w' P' d p (putX X (m / 64) (grO (O.set m (0,0)) (m / 64)))/\Chg P P' w w') hf ((spGive_yes h hw hp hH hO hm hx hfr).mono fun e w' ⟨he,hr⟩=>⟨0,he,rfl,hr⟩)).mono fun e w' ⟨E,he,hE,hr⟩=>by rw[hE] at he;exact ⟨he,hr⟩
theorem chDrop_hole {W:World}{bc n B:Nat}{x F:List Int}{fv:Value} (hc:ChAt W bc bf n x fv) {i:Nat} (hF:10<=i->∃ bg,FarA W B bc P fv F bg) (hi:i<138) (h0:locX x F i=0):
 Calls Tryz.prog 46 #[.pointer (some ⟨bc,0,none⟩),.int .i64 i] W fun e w'=>e=.returned (.int .i64 0)/\W=w':=by
 have K:=Lib.hid (chAt_of hc hF hi)
 rw[h0] at K
 clear hc hF h0
 go_enter Tryz.func46,Tryz.ntmps46
 go_wp2_with (go_at_call 37;refine K.out.mono ?_;rintro e w' ⟨rfl,rfl⟩)
 go_ret
 exact ⟨rfl,rfl⟩
theorem chDrop_yes {W:World}{bc n B:Nat}{x F:List Int}{fv:Value} (hc:ChAt W bc bf n x fv) {i:Nat} (hF:10<=i->∃ bg,FarA W B bc P fv F bg) (hi:i<138) {m:Nat} (hm:locX x F i=(m:Int)) (hm0:m≠0) {R1 R:World->Prop}
 (hG:Calls Tryz.prog 78 #[.pointer (some ⟨bf,0,none⟩),.int .i64 m] W fun e w'=>e=.returned (.int .i64 0)/\R1 w')
 (hS:∀ V,R1 V->Calls Tryz.prog 41 #[.pointer (some ⟨bc,0,none⟩),.int .i64 i,.int .i64 0] V fun e w'=>e=.returned (.int .i64 0)/\R w'):
 Calls Tryz.prog 46 #[.pointer (some ⟨bc,0,none⟩),.int .i64 i] W fun e w'=>e=.returned (.int .i64 0)/\R w':=by
 have K:=Lib.hid (chAt_of hc hF hi)
 rw[hm] at K
 have KG:=Lib.hid hG
 have KS:=Lib.hid hS
 have c0:=hc.c0
 have hz:((m:Int)==0)=false:=by simp;omega
 clear hc hF hm hm0 hG hS
 go_enter Tryz.func46,Tryz.ntmps46
 go_wp2_with (first
  |(go_at_call 37;refine K.out.mono ?_;rintro e w' ⟨rfl,rfl⟩)
  |(go_at_call 78;refine KG.out.mono ?_;rintro e w2 ⟨rfl,hr1⟩)
  |(go_at_call 41;refine (KS.out _ hr1).mono ?_;rintro e w3 ⟨rfl,hr3⟩))
 go_ret
 exact ⟨rfl,hr3⟩
theorem chDropMap_none {W:World}{bc n:Nat}{x:List Int}{fv:Value} (hc:ChAt W bc bf n x fv) (h0:num x 13=0):
 Calls Tryz.prog 47 #[.pointer (some ⟨bc,0,none⟩)] W fun e w'=>e=.returned (.int .i64 0)/\W=w':=by
 have cm:=hc.cm
 rw[h0] at cm
 clear hc h0
 go_enter Tryz.func47,Tryz.ntmps47
 go_wp2
 go_ret
 exact ⟨rfl,rfl⟩
theorem chDropMap_keep {W:World}{bc n B bg:Nat}{x F:List Int}{fv:Value} (hc:ChAt W bc bf n x fv) (h0:num x 13≠0) (hF:FarA W B bc P fv F bg) (hn:anyN F=true):
 Calls Tryz.prog 47 #[.pointer (some ⟨bc,0,none⟩)] W fun e w'=>e=.returned (.int .i64 0)/\W=w':=by
 have cm:=hc.cm
 have cf:=hc.cf
 have K:=Lib.hid (slContF_of hF.isl (by rw[hF.1];decide) hn)
 obtain ⟨m,hm⟩:∃ m,m=num x 13:=⟨_,rfl⟩
 rw[<- hm] at cm h0
 have hz:(m==0)=false:=by simpa using h0
 clear hc h0 hF hn hm
 go_enter Tryz.func47,Tryz.ntmps47
 go_wp2_with (go_at_call 79;refine K.out.mono ?_;rintro e w' ⟨rfl,rfl⟩)
 go_ret
 exact ⟨rfl,rfl⟩
set_option maxHeartbeats 1000000 in
theorem chDropMap_yes {bc n B bg:Nat}{x F:List Int}{fv:Value}{m:Nat} (hF:FarA w B bc P fv F bg) (hn:anyN F=false) (hm:num x 13=(m:Int)) (hm0:m≠0)
 (hK:Calls Tryz.prog 78 #[.pointer (some ⟨bf,0,none⟩),.int .i64 m] w.drew fun e w'=>e=.returned (.int .i64 0)/\∃ P',SInv w' P' d p X/\Chg P P' w w')
 (hw:X.wi=true) (hp:X.put.length<37) (hf:FsAt w bf p) (hnf:¬ P bf) (hT:Tab X.call S N) (h1:1<=n) (h48:n<48) (hc:ChAt w bc bf n x fv) (hnb:¬ P bc) (hfx:frmI (x.set 13 0)=true):
 Calls Tryz.prog 47 #[.pointer (some ⟨bc,0,none⟩)] w fun e w'=>e=.returned (.int .i64 0)/\∃ P',SInv w' P' d p (putI X S N n (x.set 13 0))/\Chg (PM P (·=bc)) (PM P' (·=bc)) w w'/\¬ P' bc:=by
 have K:=Lib.hid hK
 have KN:=Lib.hid (slContF_of hF.isl (by rw[hF.1];decide) hn)
 have HX:Hid ((x.set 13 (0:Int)).length=14):=Lib.hid (by rw[List.length_set];exact hc.1)
 have u1:=Tryz.underlying92
 obtain ⟨y,hy⟩:∃ y,y=x.set 13 (0:Int):=⟨_,rfl⟩
 rw[<- hy] at hfx HX |-
 have c0:=hc.c0
 have cm:=hc.cm
 have cf:=hc.cf
 rw[hm] at cm
 have hz:((m:Int)==0)=false:=by simp;omega
 have HC:Hid (∀ V P',Chg P P' w V->V.cell? ⟨bc,15,none⟩=some (.int .i64 (m:Nat))/\V.frozen? ⟨bc,15,none⟩=false):=Lib.hid fun V P' hv=>⟨by rw[(hc.chg hv hnb).1.cm,hm],(hc.chg hv hnb).1.free 15⟩
 have HD:Hid (∀ V P',Chg P P' w V->SInv V P' d p X->ChAt (V.setCell ⟨bc,15,none⟩ (.int .i64 0)).drew bc bf n y fv/\Chg (PM P (·=bc)) (PM P' (·=bc)) w (V.setCell ⟨bc,15,none⟩ (.int .i64 0)).drew/\
  Calls Tryz.prog 58 #[.pointer (some ⟨bf,0,none⟩),.int .i64 n,.agg (iC y).toArray] (V.setCell ⟨bc,15,none⟩ (.int .i64 0)).drew fun e w'=>e=.returned (.int .i64 0)/\∃ P'',SInv w' P'' d p (putI X S N n y)/\ChAt w' bc bf n y fv/\Chg P' P'' (V.setCell ⟨bc,15,none⟩ (.int .i64 0)).drew w'/\¬ P'' bc):=Lib.hid fun V P' hv hi=>by
  obtain ⟨hc2,hn2⟩:=hc.chg hv hnb
  obtain ⟨hf2,hnf2⟩:=hf.chg hv hnf
  have hw3:=Wrote.setCell V bc 15 (.int .i64 (0:Int))
  have hc3:=hc2.setN (k:=13) (by decide) (0:Int)
  rw[show 2+13=15 by rfl,<- hy] at hc3
  have hd:=(Below.refl (V.setCell ⟨bc,15,none⟩ (.int .i64 (0:Int))).heap.size (V.setCell ⟨bc,15,none⟩ (.int .i64 (0:Int)))).drew
  have hf3:FsAt (V.setCell ⟨bc,15,none⟩ (.int .i64 (0:Int))) bf p:=(hw3.2.2.2.2 bf (hf2.ne_ch hc2)).trans hf2
  exact ⟨hc3.low hd,(hv.pm _).trans ((Chg.one (P:=P') hw3).trans (Chg.of_below hd)),nodeP ((hi.wrote hw3 hn2).low hd) hw hp (hf3.low hd) hT h1 h48 (hc3.low hd) hn2 hfx⟩
 clear hK hw hp hf hnf hT h1 h48 hc hnb hfx hy hF hn hm hm0
 go_enter Tryz.func47,Tryz.ntmps47
 go_upto_region 3 with (go_at_call 79;refine KN.out.mono ?_;rintro e w' ⟨rfl,rfl⟩)
 go_still_tail 9,(by kernel_rfl)
 go_upto_region 7 with (go_at_call 78;refine K.out.mono ?_;rintro e w2 ⟨rfl,P2,hi2,hg2⟩;obtain ⟨c15,f15⟩:=HC.out _ _ hg2)
 obtain ⟨hS,hg3,hk3⟩:=HD.out _ _ hg2 hi2
 have HG:=Lib.hid hg3
 have KP:=Lib.hid hk3
 clear hg2 hi2 c15 f15 hg3 hk3
 refine wp_region_held_drew (S:=fun W=>ChAt W bc bf n y fv) (by kernel_rfl) hS (fun hHeld=>?_)
 clear hHeld
 refine tk 0 (.pointer (some ⟨bc,0,none⟩)) rfl (by kernel_rfl) (fun _ _ _ h=>h) (Or.inl ⟨by rfl,?_⟩) (by assumption) ?_
 · intro W hM;go_simp
 (try simp only[Act.put,q1,q2,q3,q4,q5,q6])
 refine tk 1 (.pointer (some ⟨bc,0,none⟩)) rfl (by kernel_rfl) (fun _ _ _ h=>h) (Or.inl ⟨by rfl,?_⟩) (by assumption) ?_
 · intro W hM;go_simp
 (try simp only[Act.put,q1,q2,q3,q4,q5,q6])
 refine tk 2 (.pointer (some ⟨bc,0,none⟩)) rfl (by kernel_rfl) (fun _ _ _ h=>h) (Or.inl ⟨by rfl,?_⟩) (by assumption) ?_
 · intro W hM;go_simp
 (try simp only[Act.put,q1,q2,q3,q4,q5,q6])
 refine tk 3 (.pointer (some ⟨bf,0,none⟩)) rfl (by kernel_rfl) (fun _ _ _ h=>h) (Or.inl ⟨by rfl,?_⟩) (by assumption) ?_
 · intro W hM;have f0:=hM.c0;go_simp
 (try simp only[Act.put,q1,q2,q3,q4,q5,q6])
 refine tk 4 (.pointer (some ⟨bc,0,none⟩)) rfl (by kernel_rfl) (fun _ _ _ h=>h) (Or.inl ⟨by rfl,?_⟩) (by assumption) ?_
 · intro W hM;go_simp
 (try simp only[Act.put,q1,q2,q3,q4,q5,q6])
 refine tk 5 (.pointer (some ⟨bc,0,none⟩)) rfl (by kernel_rfl) (fun _ _ _ h=>h) (Or.inl ⟨by rfl,?_⟩) (by assumption) ?_
 · intro W hM;go_simp
 (try simp only[Act.put,q1,q2,q3,q4,q5,q6])
 refine tk 6 (.pointer (some ⟨bc,1,none⟩)) rfl (by kernel_rfl) (fun _ _ _ h=>h) (Or.inl ⟨by rfl,?_⟩) (by assumption) ?_
 · intro W hM;go_simp
 (try simp only[Act.put,q1,q2,q3,q4,q5,q6])
 refine tk 7 (.int .i64 n) rfl (by kernel_rfl) (fun _ _ _ h=>h) (Or.inl ⟨by rfl,?_⟩) (by assumption) ?_
 · intro W hM;have f1:=hM.c1;go_simp
 (try simp only[Act.put,q1,q2,q3,q4,q5,q6])
 refine tk 8 (.pointer (some ⟨bc,0,none⟩)) rfl (by kernel_rfl) (fun _ _ _ h=>h) (Or.inl ⟨by rfl,?_⟩) (by assumption) ?_
 · intro W hM;go_simp
 (try simp only[Act.put,q1,q2,q3,q4,q5,q6])
 refine tk 9 (.pointer (some ⟨bc,0,none⟩)) rfl (by kernel_rfl) (fun _ _ _ h=>h) (Or.inl ⟨by rfl,?_⟩) (by assumption) ?_
 · intro W hM;go_simp
 (try simp only[Act.put,q1,q2,q3,q4,q5,q6])
 refine tk 10 (.pointer (some ⟨bc,2,none⟩)) rfl (by kernel_rfl) (fun _ _ _ h=>h) (Or.inl ⟨by rfl,?_⟩) (by assumption) ?_
 · intro W hM;go_simp
 (try simp only[Act.put,q1,q2,q3,q4,q5,q6])
 refine tk 11 (.agg (iC y).toArray) rfl (by kernel_rfl) (fun _ _ _ h=>h) (yieldsIf_load_mid rfl 92 (.tmp 44) rfl bc 2 rfl (iC y) _ (fun W hW=>hW.rng) u1 rfl (by rw[sizeIn,iC_length,HX.out])) (by assumption) ?_
 (try simp only[Act.put,q1,q2,q3,q4,q5,q6])
 refine wpAnyH_ready (rs:=[12]) (by kernel_rfl) (by simp) (AllReadyH.cons rfl (fun K hK=>?_) AllReadyH.nil)
 go_simp
 go_at_call 58
 refine KP.out.mono ?_
 rintro e w4 ⟨rfl,P4,hi4,hc4,hg4⟩
 refine hK.out _ _ hc4 (fun hHeld=>?_)
 clear hK K hHeld
 (try simp only[Act.put,q1,q2,q3,q4,q5,q6])
 refine tk 13 (.int .i64 0) rfl (by kernel_rfl) (fun _ _ _ h=>h) (Or.inl ⟨by rfl,?_⟩) (by assumption) ?_
 · intro W hM;go_simp
 (try simp only[Act.put,q1,q2,q3,q4,q5,q6])
 refine wpAnyH_done (by kernel_rfl) ?_ _
 go_wp2
 go_ret
 exact ⟨rfl,P4,hi4,HG.out.trans (hg4.1.pm _),hg4.2⟩
end
section
variable {w:World}{f:Value}{n i:Nat}{R0 R1 R2:Nat->World->Prop}{R3:World->Prop}
theorem fmMap_err {i:Int} (hO:Calls Tryz.prog 36 #[f,.int .i64 n,.int .i64 i] w fun e w'=>e=.returned (.tuple #[.pointer none,.int .i64 1])/\R3 w'):
 Calls Tryz.prog 15 #[f,.int .i64 n,.int .i64 i] w fun e w'=>e=.returned (.tuple #[.int .i64 0,.int .i64 1])/\R3 w':=by
 have K:=Lib.hid hO
 clear hO
 go_enter Tryz.func15,Tryz.ntmps15
 go_wp2_with (go_at_call 36;refine K.out.mono ?_;rintro e w2 ⟨rfl,h2⟩)
 go_ret2
 exact ⟨rfl,h2⟩
theorem fmMap_bad {n i:Int} (hO:Calls Tryz.prog 36 #[f,.int .i64 n,.int .i64 i] w fun e w'=>e=.returned (.tuple #[.pointer none,.int .i64 1])/\R3 w'):
 Calls Tryz.prog 15 #[f,.int .i64 n,.int .i64 i] w fun e w'=>e=.returned (.tuple #[.int .i64 0,.int .i64 1])/\R3 w':=by
 have K:=Lib.hid hO
 clear hO
 go_enter Tryz.func15,Tryz.ntmps15
 go_wp2_with (go_at_call 36;refine K.out.mono ?_;rintro e w2 ⟨rfl,h2⟩)
 go_ret2
 exact ⟨rfl,h2⟩
theorem fmMap_was {v:Int} (hv:v≠0) (hO:Calls Tryz.prog 36 #[f,.int .i64 n,.int .i64 i] w fun e w'=>∃ bc,e=.returned (.tuple #[.pointer (some ⟨bc,0,none⟩),.int .i64 0])/\R0 bc w')
 (hA:∀ bc V,R0 bc V->Calls Tryz.prog 37 #[.pointer (some ⟨bc,0,none⟩),.int .i64 i] V fun e w'=>e=.returned (.int .i64 v)/\V=w'):
 Calls Tryz.prog 15 #[f,.int .i64 n,.int .i64 i] w fun e w'=>e=.returned (.tuple #[.int .i64 v,.int .i64 0])/\∃ bc,R0 bc w':=by
 have K:=Lib.hid hO
 have KA:=Lib.hid hA
 have hz:(v != 0)=true:=by simpa using hv
 clear hO hA hv
 go_enter Tryz.func15,Tryz.ntmps15
 go_wp2_with (first
  |(go_at_call 36;refine K.out.mono ?_;rintro e w2 ⟨bc,rfl,h2⟩)
  |(go_at_call 37;refine (KA.out _ _ h2).mono ?_;rintro e w' ⟨rfl,rfl⟩))
 go_ret2
 exact ⟨rfl,bc,h2⟩
theorem fmMap_go {mp g:Int}{E v:Int} (hmp:¬ ((10:Int)<=i/\mp=0)) (hO:Calls Tryz.prog 36 #[f,.int .i64 n,.int .i64 i] w fun e w'=>∃ bc,e=.returned (.tuple #[.pointer (some ⟨bc,0,none⟩),.int .i64 0])/\R0 bc w')
 (hA:∀ bc V,R0 bc V->Calls Tryz.prog 37 #[.pointer (some ⟨bc,0,none⟩),.int .i64 i] V fun e w'=>e=.returned (.int .i64 0)/\V=w')
 (hc:∀ bc V,R0 bc V->V.cell? ⟨bc,15,none⟩=some (.int .i64 mp))
 (hG:∀ bc V,R0 bc V->Calls Tryz.prog 40 #[.pointer (some ⟨bc,0,none⟩),.int .i64 i] V fun e w'=>e=.returned (.int .i64 g)/\V=w')
 (hT:∀ bc V,R0 bc V->Calls Tryz.prog 39 #[.pointer (some ⟨bc,0,none⟩),.int .i64 g,.int .i64 i] V fun e w'=>e=.returned (.tuple #[.int .i64 v,.int .i64 E])/\R2 bc w')
 (hS:E=0->∀ bc V,R2 bc V->Calls Tryz.prog 41 #[.pointer (some ⟨bc,0,none⟩),.int .i64 i,.int .i64 v] V fun e w'=>e=.returned (.int .i64 0)/\R3 w'):
 Calls Tryz.prog 15 #[f,.int .i64 n,.int .i64 i] w fun e w'=>(E=0/\e=.returned (.tuple #[.int .i64 v,.int .i64 0])/\R3 w')\/(E≠0/\e=.returned (.tuple #[.int .i64 0,.int .i64 E])/\∃ bc,R2 bc w'):=by
 have K:=Lib.hid hO
 have KA:=Lib.hid hA
 have KC:=Lib.hid hc
 have KG:=Lib.hid hG
 have KT:=Lib.hid hT
 by_cases hE:E=0
 · subst hE
   have KS:=Lib.hid (hS rfl)
   clear hO hA hc hG hT hS
   by_cases h10:(10:Int)<=i
   · have hz:(mp==0)=false:=by simpa using fun e=>hmp ⟨h10,e⟩
     clear hmp
     go_enter Tryz.func15,Tryz.ntmps15
     go_wp2_with (first
      |(go_at_call 36;refine K.out.mono ?_;rintro e w2 ⟨bc,rfl,h2⟩;have c15:=KC.out _ _ h2)
      |(go_at_call 37;refine (KA.out _ _ h2).mono ?_;rintro e w' ⟨rfl,rfl⟩)
      |(go_at_call 40;refine (KG.out _ _ h2).mono ?_;rintro e w' ⟨rfl,rfl⟩)
      |(go_at_call 39;refine (KT.out _ _ h2).mono ?_;rintro e w3 ⟨rfl,h3⟩)
      |(go_at_call 41;refine (KS.out _ _ h3).mono ?_;rintro e w4 ⟨rfl,h4⟩))
     go_ret2
     exact .inl ⟨by trivial,rfl,h4⟩
   · clear hmp
     go_enter Tryz.func15,Tryz.ntmps15
     go_wp2_with (first
      |(go_at_call 36;refine K.out.mono ?_;rintro e w2 ⟨bc,rfl,h2⟩;have c15:=KC.out _ _ h2)
      |(go_at_call 37;refine (KA.out _ _ h2).mono ?_;rintro e w' ⟨rfl,rfl⟩)
      |(go_at_call 40;refine (KG.out _ _ h2).mono ?_;rintro e w' ⟨rfl,rfl⟩)
      |(go_at_call 39;refine (KT.out _ _ h2).mono ?_;rintro e w3 ⟨rfl,h3⟩)
      |(go_at_call 41;refine (KS.out _ _ h3).mono ?_;rintro e w4 ⟨rfl,h4⟩))
     go_ret2
     exact .inl ⟨by trivial,rfl,h4⟩
 · have hE2:(E != 0)=true:=by simpa using hE
   have HE:=Lib.hid hE
   clear hO hA hc hG hT hS hE
   by_cases h10:(10:Int)<=i
   · have hz:(mp==0)=false:=by simpa using fun e=>hmp ⟨h10,e⟩
     clear hmp
     go_enter Tryz.func15,Tryz.ntmps15
     go_wp2_with (first
      |(go_at_call 36;refine K.out.mono ?_;rintro e w2 ⟨bc,rfl,h2⟩;have c15:=KC.out _ _ h2)
      |(go_at_call 37;refine (KA.out _ _ h2).mono ?_;rintro e w' ⟨rfl,rfl⟩)
      |(go_at_call 40;refine (KG.out _ _ h2).mono ?_;rintro e w' ⟨rfl,rfl⟩)
      |(go_at_call 39;refine (KT.out _ _ h2).mono ?_;rintro e w3 ⟨rfl,h3⟩))
     go_ret2
     exact .inr ⟨HE.out,rfl,bc,h3⟩
   · clear hmp
     go_enter Tryz.func15,Tryz.ntmps15
     go_wp2_with (first
      |(go_at_call 36;refine K.out.mono ?_;rintro e w2 ⟨bc,rfl,h2⟩;have c15:=KC.out _ _ h2)
      |(go_at_call 37;refine (KA.out _ _ h2).mono ?_;rintro e w' ⟨rfl,rfl⟩)
      |(go_at_call 40;refine (KG.out _ _ h2).mono ?_;rintro e w' ⟨rfl,rfl⟩)
      |(go_at_call 39;refine (KT.out _ _ h2).mono ?_;rintro e w3 ⟨rfl,h3⟩))
     go_ret2
     exact .inr ⟨HE.out,rfl,bc,h3⟩
theorem fmMap_add {g:Int}{M E v:Int} (h10:(10:Int)<=i) (hO:Calls Tryz.prog 36 #[f,.int .i64 n,.int .i64 i] w fun e w'=>∃ bc,e=.returned (.tuple #[.pointer (some ⟨bc,0,none⟩),.int .i64 0])/\R0 bc w')
 (hA:∀ bc V,R0 bc V->Calls Tryz.prog 37 #[.pointer (some ⟨bc,0,none⟩),.int .i64 i] V fun e w'=>e=.returned (.int .i64 0)/\V=w')
 (hc:∀ bc V,R0 bc V->V.cell? ⟨bc,15,none⟩=some (.int .i64 0))
 (hM:∀ bc V,R0 bc V->Calls Tryz.prog 38 #[.pointer (some ⟨bc,0,none⟩)] V fun e w'=>e=.returned (.int .i64 M)/\R1 bc w')
 (hG:M=0->∀ bc V,R1 bc V->Calls Tryz.prog 40 #[.pointer (some ⟨bc,0,none⟩),.int .i64 i] V fun e w'=>e=.returned (.int .i64 g)/\V=w')
 (hT:M=0->∀ bc V,R1 bc V->Calls Tryz.prog 39 #[.pointer (some ⟨bc,0,none⟩),.int .i64 g,.int .i64 i] V fun e w'=>e=.returned (.tuple #[.int .i64 v,.int .i64 E])/\R2 bc w')
 (hS:M=0->E=0->∀ bc V,R2 bc V->Calls Tryz.prog 41 #[.pointer (some ⟨bc,0,none⟩),.int .i64 i,.int .i64 v] V fun e w'=>e=.returned (.int .i64 0)/\R3 w'):
 Calls Tryz.prog 15 #[f,.int .i64 n,.int .i64 i] w fun e w'=>(M≠0/\e=.returned (.tuple #[.int .i64 0,.int .i64 M])/\∃ bc,R1 bc w')\/(M=0/\E=0/\e=.returned (.tuple #[.int .i64 v,.int .i64 0])/\R3 w')\/(M=0/\E≠0/\e=.returned (.tuple #[.int .i64 0,.int .i64 E])/\∃ bc,R2 bc w'):=by
 have K:=Lib.hid hO
 have KA:=Lib.hid hA
 have KC:=Lib.hid hc
 have KM:=Lib.hid hM
 by_cases hM0:M=0
 · subst hM0
   have KG:=Lib.hid (hG rfl)
   have KT:=Lib.hid (hT rfl)
   by_cases hE:E=0
   · subst hE
     have KS:=Lib.hid (hS rfl rfl)
     clear hO hA hc hM hG hT hS
     go_enter Tryz.func15,Tryz.ntmps15
     go_wp2_with (first
      |(go_at_call 36;refine K.out.mono ?_;rintro e w2 ⟨bc,rfl,h2⟩;have c15:=KC.out _ _ h2)
      |(go_at_call 37;refine (KA.out _ _ h2).mono ?_;rintro e w' ⟨rfl,rfl⟩)
      |(go_at_call 38;refine (KM.out _ _ h2).mono ?_;rintro e w3 ⟨rfl,h3⟩)
      |(go_at_call 40;refine (KG.out _ _ h3).mono ?_;rintro e w' ⟨rfl,rfl⟩)
      |(go_at_call 39;refine (KT.out _ _ h3).mono ?_;rintro e w4 ⟨rfl,h4⟩)
      |(go_at_call 41;refine (KS.out _ _ h4).mono ?_;rintro e w5 ⟨rfl,h5⟩))
     go_ret2
     exact .inr (.inl ⟨by trivial,by trivial,rfl,h5⟩)
   · have hE2:(E != 0)=true:=by simpa using hE
     have HE:=Lib.hid hE
     clear hO hA hc hM hG hT hS hE
     go_enter Tryz.func15,Tryz.ntmps15
     go_wp2_with (first
      |(go_at_call 36;refine K.out.mono ?_;rintro e w2 ⟨bc,rfl,h2⟩;have c15:=KC.out _ _ h2)
      |(go_at_call 37;refine (KA.out _ _ h2).mono ?_;rintro e w' ⟨rfl,rfl⟩)
      |(go_at_call 38;refine (KM.out _ _ h2).mono ?_;rintro e w3 ⟨rfl,h3⟩)
      |(go_at_call 40;refine (KG.out _ _ h3).mono ?_;rintro e w' ⟨rfl,rfl⟩)
      |(go_at_call 39;refine (KT.out _ _ h3).mono ?_;rintro e w4 ⟨rfl,h4⟩))
     go_ret2
     exact .inr (.inr ⟨by trivial,HE.out,rfl,bc,h4⟩)
 · have hM2:(M != 0)=true:=by simpa using hM0
   have HM:=Lib.hid hM0
   clear hO hA hc hM hG hT hS hM0
   go_enter Tryz.func15,Tryz.ntmps15
   go_wp2_with (first
    |(go_at_call 36;refine K.out.mono ?_;rintro e w2 ⟨bc,rfl,h2⟩;have c15:=KC.out _ _ h2)
    |(go_at_call 37;refine (KA.out _ _ h2).mono ?_;rintro e w' ⟨rfl,rfl⟩)
    |(go_at_call 38;refine (KM.out _ _ h2).mono ?_;rintro e w3 ⟨rfl,h3⟩))
   go_ret2
   exact .inl ⟨HM.out,rfl,bc,h3⟩
end
structure Fmd (w:World) (P:Nat->Prop) (d p:Value) (X:XSt) (S:List Int) (N:List (List Int)) (O:List (Int × Int)) (kk:Nat) (F:Nat->List Int) (bf:Nat):Prop where
 inv:SInv w P d p X
 wi:X.wi=true
 pl:Pl noEx X.call S N O kk F
 st:Stil S kk
 fs:FsAt w bf p
 nb:¬ P bf
def Onw (X X':XSt):Prop:=X'.is=X.is/\X'.ds=X.ds
theorem Onw.trans {X Y Z:XSt} (h:Onw X Y) (k:Onw Y Z):Onw X Z:=⟨k.1.trans h.1,k.2.trans h.2⟩
theorem Onw.refl (X:XSt):Onw X X:=⟨rfl,rfl⟩
section
variable {w:World}{P:Nat->Prop}{d p:Value}{X:XSt}{S:List Int}{N:List (List Int)}{O:List (Int × Int)}{kk:Nat}{F:Nat->List Int}{bf:Nat}
theorem Fmd.cur (h:Fmd w P d p X S N O kk F bf):X.cur=X.call:=by unfold XSt.cur;rw[if_pos h.wi]
theorem Fmd.isl (h:Fmd w P d p X S N O kk F bf):X.is.length=64*kk:=by rw[<- h.inv.xok.curLen,h.cur];exact h.pl.has.len
theorem Fmd.low (h:Fmd w P d p X S N O kk F bf) {w':World} (hb:Below w.heap.size w w'):Fmd w' P d p X S N O kk F bf:={ h with inv:=h.inv.low hb,fs:=h.fs.low hb }
end
structure Chs (w0:World) (P0:Nat->Prop) (w:World) (P:Nat->Prop) (d p:Value) (X:XSt) (S:List Int) (N:List (List Int)) (O:List (Int × Int)) (kk:Nat) (F:Nat->List Int) (bf n i bc:Nat) (fv:Value):Prop where
 md:Fmd w P d p X S N O kk F bf
 ch:ChAt w bc bf n (N.getD n []) fv
 nc:¬ P bc
 bb:w0.heap.size<=bc
 far:10<=i->∃ bg,FarA w w0.heap.size bc P fv (F n) bg
 cg:Chg P0 P w0 w
section
variable {w0 w:World}{P0 P:Nat->Prop}{d p:Value}{X:XSt}{S:List Int}{N:List (List Int)}{O:List (Int × Int)}{kk:Nat}{F:Nat->List Int}{bf n i bc:Nat}{fv:Value}
theorem Chs.open (h:Fmd w P d p X S N O kk F bf) (h1:1<=n) (h48:n<48) (hk:kindN N n≠0) (hi:i<138):
 Calls Tryz.prog 36 #[.pointer (some ⟨bf,0,none⟩),.int .i64 n,.int .i64 i] w fun e w'=>∃ bc,e=.returned (.tuple #[.pointer (some ⟨bc,0,none⟩),.int .i64 0])/\∃ fv,Chs w P w' P d p X S N O kk F bf n i bc fv:=by
 have hc:=h.cur
 refine (fmOpenAt_yes (F:=F) h.inv h.fs (by rw[hc];exact h.pl.tab) (by rw[hc];exact h.pl.fi) h.pl.ok.k12 (by rw[hc];exact h.pl.has.len) h1 h48 hk hi (Below.refl _ _)).mono ?_
 rintro e w' ⟨bc,fv,he,hbc,hch,hfa,hb⟩
 exact ⟨bc,he,fv,h.low hb,hch,fun hp=>by have:=h.inv.lt _ hp;omega,hbc,hfa,Chg.of_below hb⟩
theorem Chs.at (h:Chs w0 P0 w P d p X S N O kk F bf n i bc fv) (hi:i<138):Calls Tryz.prog 37 #[.pointer (some ⟨bc,0,none⟩),.int .i64 i] w fun e w'=>e=.returned (.int .i64 (locX (N.getD n []) (F n) i))/\w=w':=chAt_of h.ch h.far hi
theorem Chs.goal (h:Chs w0 P0 w P d p X S N O kk F bf n i bc fv) (h48:n<48) (hi:i<138):Calls Tryz.prog 40 #[.pointer (some ⟨bc,0,none⟩),.int .i64 i] w fun e w'=>e=.returned (.int .i64 (goalX (N.getD n []) (F n) i))/\w=w':=
 chGoal_of h.ch h.far hi fun h0=>locX_bd (h.md.pl.tab.n.frm n h48) (h.md.pl.fi.fl n) (by omega)
def takX (X:XSt) (O:List (Int × Int)) (f:Nat) (q:Int × Int):XSt:=putB (putX X (f / 64) (grO (O.set f q) (f / 64))) f z256
structure Base (Q:List Int) (S:List Int) (kk n:Nat) (mp:Int):Prop where
 g:∀ g,g<kk->(dscN g:Int)∈Q/\(dscN g:Int)+1∈Q
 t:((tabAt S (n / 8):Nat):Int)∈Q
 m:mp≠0->mp∈Q
theorem PutS.adds {X X':XSt}{Q:List Int} (h:PutS X Q) {a b:Int} (ha:a∈Q) (hb:b∈Q) (e:X'.put=addS (addS X.put a) b):PutS X' Q:=
 PutS.add (X:={ X with put:=addS X.put a }) (h.add ha rfl) hb e
theorem PutS.tak {Q:List Int} (h:PutS X Q) {f:Nat}{q:Int × Int} (hg:(dscN (f / 64):Int)∈Q/\(dscN (f / 64):Int)+1∈Q):PutS (putX X (f / 64) (grO (O.set f q) (f / 64))) Q/\PutS (takX X O f q) (Q ++ [(f:Int)]):=by
 have h1:PutS (putX X (f / 64) (grO (O.set f q) (f / 64))) Q:=h.adds hg.2 hg.1 rfl
 exact ⟨h1,(h1.wide fun a ha=>List.mem_append_left _ ha).add (List.mem_append_right _ (List.mem_singleton.2 rfl)) rfl⟩
theorem free_out {f:Nat} (hf:FreeB O kk f) (h12:kk<=12):OutJ f:=by
 have hx:=hf.fx
 have:=hf.lt
 unfold fixB at hx
 have:=of_decide_eq_false hx
 unfold OutJ;omega
theorem Chs.take (h:Chs w0 P0 w P d p X S N O kk F bf n i bc fv) (h1:1<=n) (h48:n<48) (g:Int) {a:Nat} (ha:a<139) {Q:List Int} (hq:PutS X Q) (hQ:Q.length<=35) (hB:∀ g,g<kk->(dscN g:Int)∈Q/\(dscN g:Int)+1∈Q) (hr:(cntU O (64*kk):Int)<62*(kk:Int)-42):
 ∃ f:Nat,FreeB O kk f/\findS O (64*kk) (goalS (64*kk) g)=f/\PutS (takX X O f (n,atX a)) (Q ++ [(f:Int)])/\
   Calls Tryz.prog 39 #[.pointer (some ⟨bc,0,none⟩),.int .i64 g,.int .i64 (atX a)] w fun e w'=>e=.returned (.tuple #[.int .i64 f,.int .i64 0])/\∃ P',Chs w0 P0 w' P' d p (takX X O f (n,atX a)) S N (O.set f (n,atX a)) kk F bf n i bc fv/\Chg P P' w w':=by
 have hO:=h.md.pl.ok
 have h12:=hO.k12
 obtain ⟨f,f1,f2,f3,f4⟩:=find_free hO (m:=kk) (g:=goalS (64*kk) g) hO.k1 (Nat.le_refl _) (by unfold goalS;have:=hO.k1;split <;> omega) hr
 have hf:FreeB O kk f:=⟨f3,f4,f1⟩
 have hbd:=atX_bd ha
 obtain ⟨A,hA⟩:∃ A:Nat,atX a=(A:Int):=⟨(atX a).toNat,by omega⟩
 have hfo:=frmO_at h1 h48 ha
 obtain ⟨p1,p2⟩:=hq.tak (O:=O) (f:=f) (q:=((n:Int),atX a)) (hB (f / 64) (by omega))
 refine ⟨f,hf,f2,p2,?_⟩
 have hpl:=(h.md.pl.take hf.fr hf.fx hf.lt (i:=(n:Int)) (j:=atX a) (by omega) hbd hfo (by omega) (by omega)).1
 rw[hA] at hbd hfo hpl p1 |-
 refine (chTake_yes (X1:=putX X (f / 64) (grO (O.set f ((n:Int),(A:Int))) (f / 64))) (f:=f) (d:=d) h.ch h.nc h.md.fs h.md.nb h48 (a:=A) (by omega) h.md.inv.lt (fun V hV=>fsTake_yes (h.md.inv.low hV) h.md.wi (by have:=hq.le;omega) h.md.pl.has hO (h.md.fs.low hV) h.md.pl.tab h.md.st g (by omega) hbd hfo (by omega) (by omega) hr f1 f2 f4)
  h.md.wi (by have:=p1.le;omega) (by show f<X.is.length;rw[h.md.isl];exact f1) (by omega) (free_out hf h12)).mono ?_
 rintro e w' ⟨he,P',hi,hg⟩
 obtain ⟨hfs,hnb⟩:=h.md.fs.chg hg h.md.nb
 obtain ⟨hch,hnc⟩:=h.ch.chg hg h.nc
 exact ⟨he,P',⟨⟨hi,h.md.wi,hpl,h.md.st,hfs,hnb⟩,hch,hnc,h.bb,fun h10=>let ⟨bg,hbg⟩:=h.far h10;⟨bg,hbg.chg hg⟩,h.cg.trans hg⟩,hg⟩
theorem Chs.full (h:Chs w0 P0 w P d p X S N O kk F bf n i bc fv) (h1:1<=n) (h48:n<48) (g:Int) {a:Nat} (ha:a<139) (hr:62*(kk:Int)-42<=(cntU O (64*kk):Int)):
 Calls Tryz.prog 39 #[.pointer (some ⟨bc,0,none⟩),.int .i64 g,.int .i64 (atX a)] w fun e w'=>e=.returned (.tuple #[.int .i64 0,.int .i64 13])/\Below w.heap.size w w':=by
 have hbd:=atX_bd ha
 obtain ⟨A,hA⟩:∃ A:Nat,atX a=(A:Int):=⟨(atX a).toNat,by omega⟩
 have hfo:=frmO_at h1 h48 ha
 rw[hA] at hbd hfo |-
 exact chTake_full (R:=fun _=>True) h.ch h48 (a:=A) (by omega) fun V hV=>fsTake_full (h.md.inv.low hV) h.md.wi h.md.pl.has h.md.pl.ok (h.md.fs.low hV) h.md.pl.tab h.md.st g (by omega) hbd hfo (by omega) (by omega) hr
theorem Chs.low (h:Chs w0 P0 w P d p X S N O kk F bf n i bc fv) {w':World} (hb:Below w.heap.size w w'):Chs w0 P0 w' P d p X S N O kk F bf n i bc fv:=
 ⟨h.md.low hb,h.ch.low hb,h.nc,h.bb,fun h10=>let ⟨bg,hbg⟩:=h.far h10;⟨bg,hbg.low hb⟩,h.cg.trans (Chg.of_below hb)⟩
theorem Chs.near (h:Chs w0 P0 w P d p X S N O kk F bf n i bc fv) (h1:1<=n) (h48:n<48) (hp:X.put.length<37) {b:Nat} (hb:b<10) {v:Int} (hfx:frmI ((N.getD n []).set (3+b) v)=true) (hpl:Pl noEx (nodG X.call S N n ((N.getD n []).set (3+b) v)) S (N.set n ((N.getD n []).set (3+b) v)) O kk F):
 Calls Tryz.prog 41 #[.pointer (some ⟨bc,0,none⟩),.int .i64 b,.int .i64 v] w fun e w'=>e=.returned (.int .i64 0)/\∃ P',Chs w0 P0 w' P' d p (putI X S N n ((N.getD n []).set (3+b) v)) S (N.set n ((N.getD n []).set (3+b) v)) O kk F bf n i bc fv:=by
 refine (chSet_near h.md.inv h.md.wi hp h.md.fs h.md.pl.tab h1 h48 h.ch h.nc hb hfx).mono ?_
 rintro e w' ⟨he,P',hi,hch,hg,hnc⟩
 obtain ⟨hfs,hnb⟩:=h.md.fs.chg hg (fun hx=>hx.elim h.md.nb fun e=>h.md.fs.ne_ch h.ch e)
 have hy:(N.set n ((N.getD n []).set (3+b) v)).getD n []=(N.getD n []).set (3+b) v:=by rw[getD_n (by rw[h.md.pl.tab.n.len];exact h48),if_pos rfl]
 refine ⟨he,P',⟨hi,h.md.wi,hpl,h.md.st,hfs,fun e=>hnb (.inl e)⟩,by rw[hy];exact hch,hnc,h.bb,fun h10=>?_,Chg.inner2 h.cg hg fun k hk=>by rw[hk];exact h.bb⟩
 obtain ⟨bg,f1,f2,f3,f4,f5,f6⟩:=h.far h10
 have:=hg.keep bg (Array.getElem?_eq_some_iff.1 f6).1 fun hx=>hx.elim f4 f3
 exact ⟨bg,f1,f2,f3,fun e=>this.2 (.inl e),f5,this.1.trans f6⟩
theorem Chs.setFar (h:Chs w0 P0 w P d p X S N O kk F bf n i bc fv) (h1:1<=n) (h48:n<48) (hp:X.put.length<37) {b:Nat} (h10:10<=b) (hb:b<138) (hfar:∃ bg,FarA w w0.heap.size bc P fv (F n) bg) {v:Int} (hL:locS ((F n).set (b-10) v)=true) {m:Nat} (hm:num (N.getD n []) 13=(m:Int)) (hm0:m≠0)
 (hpl:Pl noEx (X.call.set m (mapS ((F n).set (b-10) v))) S N O kk (setF F n ((F n).set (b-10) v))):
 Calls Tryz.prog 41 #[.pointer (some ⟨bc,0,none⟩),.int .i64 b,.int .i64 v] w fun e w'=>e=.returned (.int .i64 0)/\∃ P',Chs w0 P0 w' P' d p (putB X m (mapS ((F n).set (b-10) v))) S N O kk (setF F n ((F n).set (b-10) v)) bf n i bc fv:=by
 have ho:=hpl.fi.map h1 h48 id (by rw[hm];omega)
 rw[hm] at ho
 have h12:=hpl.ok.k12
 have hob:=ho.1
 have hoj:=ho.outJ h12
 rw[Int.toNat_natCast] at hoj
 obtain ⟨bg,hbg⟩:=hfar
 obtain ⟨f1,f2,f3,f4,f5,f6⟩:=hbg
 refine (chSet_far h.md.inv h.md.wi hp h.md.fs h.ch h.nc ⟨f1,f2,f3,f4,f5,f6⟩ h10 hb hL hm (by rw[h.md.isl];omega) (by omega) hoj).mono ?_
 rintro e w' ⟨he,P',hi,hch,hfa,hg,hnc⟩
 obtain ⟨hfs,hnb⟩:=h.md.fs.chg hg (fun hx=>hx.elim h.md.nb fun e=>h.md.fs.ne_io f6 f1 e)
 exact ⟨he,P',⟨hi,h.md.wi,hpl,h.md.st,hfs,fun e=>hnb (.inl e)⟩,hch,hnc,h.bb,fun _=>⟨bg,by rw[setF_at];exact hfa⟩,Chg.inner2 h.cg hg fun k hk=>by rw[hk];exact f2⟩
theorem Chs.addMap (h:Chs w0 P0 w P d p X S N O kk F bf n i bc fv) (h1:1<=n) (h48:n<48) (hk:kindN N n≠0) (h0:num (N.getD n []) 13=0) {Q:List Int} (hq:PutS X Q) (hQ:Q.length<=35) (hB:∀ g,g<kk->(dscN g:Int)∈Q/\(dscN g:Int)+1∈Q) (hr:(cntU O (64*kk):Int)<62*(kk:Int)-42):
 ∃ m:Nat,FreeB O kk m/\findS O (64*kk) (goalS (64*kk) 0)=m/\PutS (takX X O m (n,65535)) (Q ++ [(m:Int)])/\
   Calls Tryz.prog 38 #[.pointer (some ⟨bc,0,none⟩)] w fun e w'=>e=.returned (.int .i64 0)/\∃ P',Chs w0 P0 w' P' d p (putI (takX X O m (n,65535)) S N n ((N.getD n []).set 13 m)) S (N.set n ((N.getD n []).set 13 m)) (O.set m (n,65535)) kk F bf n i bc fv:=by
 obtain ⟨m,hm,hms,p2,hT⟩:=h.take h1 h48 0 (a:=138) (by decide) hq hQ hB hr
 have e138:atX 138=65535:=rfl
 rw[e138] at p2 hT
 obtain ⟨hst,hfx⟩:=h.md.pl.addMap h1 h48 hk h0 hm
 refine ⟨m,hm,hms,p2,?_⟩
 have hp2:=p2.le
 rw[List.length_append,List.length_singleton] at hp2
 have htab:=(h.md.pl.take hm.fr hm.fx hm.lt (i:=(n:Int)) (j:=65535) (by omega) (by omega) (frmO_at h1 h48 (i:=138) (by omega)) (by omega) (by omega)).1.tab
 refine (chAddMap_yes (X:=takX X O m (n,65535)) (hT.mono fun e w' ⟨he,P',hx,hg⟩=>⟨he,P',hx.md.inv,hg⟩) h.md.wi (by omega) h.md.fs h.md.nb htab h1 h48 h.ch h.nc hfx).mono ?_
 rintro e w' ⟨he,P',hi,hch,hg,hnc⟩
 obtain ⟨hfs,hnb⟩:=h.md.fs.chg hg (fun hx=>hx.elim h.md.nb fun e=>h.md.fs.ne_ch h.ch e)
 have hy:(N.set n ((N.getD n []).set 13 (m:Int))).getD n []=(N.getD n []).set 13 (m:Int):=by rw[getD_n (by rw[h.md.pl.tab.n.len];exact h48),if_pos rfl]
 refine ⟨he,P',⟨hi,h.md.wi,hst.pl,h.md.st,hfs,fun e=>hnb (.inl e)⟩,by rw[hy];exact hch,hnc,h.bb,fun h10=>?_,Chg.inner2 h.cg hg fun k hk=>by rw[hk];exact h.bb⟩
 obtain ⟨bg,f1,f2,f3,f4,f5,f6⟩:=h.far h10
 have:=hg.keep bg (Array.getElem?_eq_some_iff.1 f6).1 fun hx=>hx.elim f4 f3
 exact ⟨bg,f1,f2,f3,fun e=>this.2 (.inl e),f5,this.1.trans f6⟩
end
structure Cst (S:List Int) (kk:Nat) (G N:List (List Int)) (O:List (Int × Int)) (F:Nat->List Int) (n:Nat) (G' N':List (List Int)) (O':List (Int × Int)) (F':Nat->List Int):Prop where
 pl:Pl noEx G' S N' O' kk F'
 hd:∀ j,j<3->num (N'.getD n []) j=num (N.getD n []) j
 oth:∀ m,m≠n->N'.getD m []=N.getD m []/\F' m=F m
 cnt:cntU O' (64*kk)+usedX (N.getD n []) (F n)=cntU O (64*kk)+usedX (N'.getD n []) (F' n)
 dat:DataK O O' G G'
 les:Less O O'
section
variable {G:List (List Int)}{S:List Int}{N:List (List Int)}{O:List (Int × Int)}{kk:Nat}{F:Nat->List Int}
theorem Cst.refl (h:Pl noEx G S N O kk F) (n:Nat):Cst S kk G N O F n G N O F:=⟨h,fun _ _=>rfl,fun _ _=>⟨rfl,rfl⟩,rfl,DataK.refl _ _,Less.refl _⟩
theorem Cst.trans {n:Nat}{G1 N1 G2 N2:List (List Int)}{O1 O2:List (Int × Int)}{F1 F2:Nat->List Int} (h:Cst S kk G N O F n G1 N1 O1 F1) (k:Cst S kk G1 N1 O1 F1 n G2 N2 O2 F2):Cst S kk G N O F n G2 N2 O2 F2:=
 ⟨k.pl,fun j hj=>(k.hd j hj).trans (h.hd j hj),fun m hm=>⟨(k.oth m hm).1.trans (h.oth m hm).1,(k.oth m hm).2.trans (h.oth m hm).2⟩,by have:=h.cnt;have:=k.cnt;omega,h.dat.less k.dat k.les,h.les.trans k.les⟩
theorem usedX_less {x y F F':List Int}{i:Nat} (hi:i<139) (h0:locX x F i≠0) (h:∀ b,b<139->locX y F' b=if b=i then 0 else locX x F b):usedX x F=usedX y F'+1:=
 cntX_more (by rw[h i hi,if_pos rfl]) h0 139 hi fun j hj hne=>by rw[h j hj,if_neg hne]
theorem Pl.dropNear (h:Pl noEx G S N O kk F) {n i f:Nat} (h1:1<=n) (h48:n<48) (hk:kindN N n≠0) (hi:i<10) (hl:locX (N.getD n []) (F n) i=(f:Int)) (h0:f≠0):
 Cst S kk G N O F n (nodG (givG G O f) S N n ((N.getD n []).set (3+i) 0)) (N.set n ((N.getD n []).set (3+i) 0)) (O.set f (0,0)) F/\frmI ((N.getD n []).set (3+i) 0)=true:=by
 have hx:=h.tab.n.get h48
 have hfx:=h.tab.n.frm n h48
 obtain ⟨t1,t2,t3,t4,t5,t6,t7⟩:=h.give h1 h48 (i:=i) (by omega) hl h0
 have hfy:=frmI_loc hx hfx hk (a:=3+i) (by omega) (by omega) (v:=(0:Int)) (by omega)
 have hloc:=fun b=>locX_near (F:=F n) hx hi (0:Int) b
 have hm:num ((N.getD n []).set (3+i) (0:Int)) 13=num (N.getD n []) 13:=by rw[num_set (by omega),if_neg (by omega)]
 obtain ⟨s1,s2⟩:=t1.node h1 h48 (y:=(N.getD n []).set (3+i) (0:Int)) (by rw[List.length_set];exact hx) hfy (fun a b e=>e.1)
  (by rw[hm];exact h.fi.m0 n h1 h48) (by rw[hm];exact t1.fi.m1 n h1 h48) (fun b hb hz=>by
    rw[hloc] at hz |-
    split
    · next e=>rw[if_pos e] at hz;exact absurd rfl hz
    · next e=>rw[if_neg e] at hz;exact t1.fi.ow n b h1 h48 hb (fun h=>e h.2) hz)
 have hn:n<N.length:=by rw[h.tab.n.len];exact h48
 refine ⟨⟨s1,fun j hj=>?_,fun m hm=>⟨getD_other _ _ _ hm,rfl⟩,?_,t6.less s2 (Less.refl _),t7⟩,hfy⟩
 · rw[getD_n hn,if_pos rfl,num_set (by omega),if_neg (by omega)]
 · rw[getD_n hn,if_pos rfl,t5,usedX_less (i:=i) (by omega) (by rw[hl];omega) fun b _=>hloc b];omega
theorem Pl.dropFar (h:Pl noEx G S N O kk F) {n i f m:Nat} (h1:1<=n) (h48:n<48) (h10:10<=i) (hi:i<138) (hl:locX (N.getD n []) (F n) i=(f:Int)) (h0:f≠0) (hm:num (N.getD n []) 13=(m:Int)) (hm0:m≠0):
 Cst S kk G N O F n ((givG G O f).set m (mapS ((F n).set (i-10) 0))) N (O.set f (0,0)) (setF F n ((F n).set (i-10) 0))/\locS ((F n).set (i-10) 0)=true:=by
 obtain ⟨t1,t2,t3,t4,t5,t6,t7⟩:=h.give h1 h48 (i:=i) (by omega) hl h0
 have hF:=h.fi.fl n
 have hloc:=fun b=>locX_far (x:=N.getD n []) hF.1 h10 hi (0:Int) b
 have hL:=locS_set hF.2 (i-10) (v:=(0:Int)) (by omega)
 obtain ⟨s1,s2⟩:=t1.far h1 h48 hm hm0 (fun e=>by have:=e.2;omega) (L:=(F n).set (i-10) (0:Int)) (by rw[List.length_set];exact hF.1) hL (fun a b e=>e.1) (fun b hb10 hb hz=>by
  have e:num ((F n).set (i-10) (0:Int)) (b-10)=locX (N.getD n []) ((F n).set (i-10) (0:Int)) b:=by unfold locX;rw[if_neg (by omega),if_neg (by omega)]
  rw[e,hloc] at hz |-
  split
  · next e=>rw[if_pos e] at hz;exact absurd rfl hz
  · next e=>rw[if_neg e] at hz;exact t1.fi.ow n b h1 h48 (by omega) (fun h=>e h.2) hz) (fun b hb e=>by have:=e.2;omega)
 refine ⟨⟨s1,fun j hj=>rfl,fun a ha=>⟨rfl,setF_ne F ha _⟩,?_,t6.less s2 (Less.refl _),t7⟩,hL⟩
 rw[setF_at,t5,usedX_less (i:=i) (by omega) (by rw[hl];omega) fun b _=>hloc b];omega
theorem anyN_zero {F:List Int} (hF:F.length=128) (h:anyN F=false):F=List.replicate 128 0:=by
 apply List.ext_getElem (by rw[hF,List.length_replicate])
 intro i h1 h2
 have:=anyN_no.1 h i h1
 rw[List.getElem_replicate]
 simpa [List.getD_eq_getElem?_getD,h1] using this
theorem Pl.dropMap (h:Pl noEx G S N O kk F) {n f:Nat} (h1:1<=n) (h48:n<48) (hk:kindN N n≠0) (hl:num (N.getD n []) 13=(f:Int)) (h0:f≠0) (hz:anyN (F n)=false):
 Cst S kk G N O F n (nodG (givG G O f) S N n ((N.getD n []).set 13 0)) (N.set n ((N.getD n []).set 13 0)) (O.set f (0,0)) F/\frmI ((N.getD n []).set 13 0)=true:=by
 have hx:=h.tab.n.get h48
 have hfx:=h.tab.n.frm n h48
 obtain ⟨t1,t2,t3,t4,t5,t6,t7⟩:=h.give h1 h48 (i:=138) (by omega) (f:=f) hl h0
 have hfy:=frmI_loc hx hfx hk (a:=13) (by omega) (by omega) (v:=(0:Int)) (by omega)
 have hloc:=fun b=>locX_map' (F:=F n) hx (0:Int) b
 have hm:num ((N.getD n []).set 13 (0:Int)) 13=0:=by rw[num_set (by omega),if_pos rfl]
 obtain ⟨s1,s2⟩:=t1.node h1 h48 (y:=(N.getD n []).set 13 (0:Int)) (by rw[List.length_set];exact hx) hfy (fun a b e=>e.1)
  (fun _=>anyN_zero (h.fi.fl n).1 hz) (by rw[hm];exact fun h=>absurd rfl h) (fun b hb hz=>by
    rw[hloc] at hz |-
    split
    · next e=>rw[if_pos e] at hz;exact absurd rfl hz
    · next e=>rw[if_neg e] at hz;exact t1.fi.ow n b h1 h48 hb (fun h=>e h.2) hz)
 have hn:n<N.length:=by rw[h.tab.n.len];exact h48
 refine ⟨⟨s1,fun j hj=>?_,fun m hm=>⟨getD_other _ _ _ hm,rfl⟩,?_,t6.less s2 (Less.refl _),t7⟩,hfy⟩
 · rw[getD_n hn,if_pos rfl,num_set (by omega),if_neg (by omega)]
 · rw[getD_n hn,if_pos rfl,t5,usedX_less (i:=138) (by omega) (by show num (N.getD n []) 13≠0;rw[hl];omega) fun b _=>hloc b];omega
end
def DropO (w0:World) (P0:Nat->Prop) (d p:Value) (X:XSt) (S:List Int) (N:List (List Int)) (O:List (Int × Int)) (kk:Nat) (F:Nat->List Int) (bf n bc:Nat) (fv:Value) (Q:List Int) (R:List Int->List Int->Prop) (w':World):Prop:=
 ∃ P' X' N' O' F',Chs w0 P0 w' P' d p X' S N' O' kk F' bf n 10 bc fv/\Cst S kk X.call N O F n X'.call N' O' F'/\Onw X X'/\PutS X' Q/\R (N'.getD n []) (F' n)
section
variable {w0 w:World}{P0 P:Nat->Prop}{d p:Value}{X:XSt}{S:List Int}{N:List (List Int)}{O:List (Int × Int)}{kk:Nat}{F:Nat->List Int}{bf n i bc:Nat}{fv:Value}{Q:List Int}
theorem Chs.give (h:Chs w0 P0 w P d p X S N O kk F bf n 10 bc fv) (h1:1<=n) (h48:n<48) (hi:i<139) {m:Nat} (hm:locX (N.getD n []) (F n) i=(m:Int)) (hm0:m≠0) (hq:PutS X Q) (hQ:Q.length<=35) (hB:∀ g,g<kk->(dscN g:Int)∈Q/\(dscN g:Int)+1∈Q) {V:World} (hV:Below w.heap.size w V):
 Calls Tryz.prog 78 #[.pointer (some ⟨bf,0,none⟩),.int .i64 m] V fun e w'=>e=.returned (.int .i64 0)/\∃ P',SInv w' P' d p (putX X (m / 64) (grO (O.set m (0,0)) (m / 64)))/\Chg P P' V w':=by
 obtain ⟨t1,t2,t3,t4,_⟩:=h.md.pl.give h1 h48 hi hm hm0
 exact fsGive_yes (h.md.inv.low hV) h.md.wi (by have:=hq.le;omega) h.md.pl.has h.md.pl.ok (h.md.fs.low hV) t4 t3 t2
theorem Chs.drop (h:Chs w0 P0 w P d p X S N O kk F bf n 10 bc fv) (h1:1<=n) (h48:n<48) (hk:kindN N n≠0) (hi:i<138) (hq:PutS X Q) (hQ:Q.length<=35) (hB:Base Q S kk n (num (N.getD n []) 13)):
 Calls Tryz.prog 46 #[.pointer (some ⟨bc,0,none⟩),.int .i64 i] w fun e w'=>e=.returned (.int .i64 0)/\
  DropO w0 P0 d p X S N O kk F bf n bc fv Q (fun y F'=>(∀ b,b<138->locX y F' b=if b=i then 0 else locX (N.getD n []) (F n) b)/\num y 13=num (N.getD n []) 13) w':=by
 obtain ⟨bg,hbg⟩:=h.far (Nat.le_refl _)
 have hfar:10<=i->∃ bg,FarA w w0.heap.size bc P fv (F n) bg:=fun _=>⟨bg,hbg⟩
 by_cases h0:locX (N.getD n []) (F n) i=0
 · refine (chDrop_hole h.ch hfar hi h0).mono ?_
   rintro e w' ⟨he,rfl⟩
   refine ⟨he,P,X,N,O,F,h,Cst.refl h.md.pl n,Onw.refl X,hq,fun b _=>?_,rfl⟩
   split
   · next e=>rw[e];exact h0
   · rfl
 · have hbd:=locX_bd (h.md.pl.tab.n.frm n h48) (h.md.pl.fi.fl n) (i:=i) (by omega)
   obtain ⟨m,hm⟩:∃ m:Nat,locX (N.getD n []) (F n) i=(m:Int):=⟨(locX (N.getD n []) (F n) i).toNat,by omega⟩
   have hm0:m≠0:=by omega
   have hx:=h.md.pl.tab.n.get h48
   have hn:n<N.length:=by rw[h.md.pl.tab.n.len];exact h48
   obtain ⟨t1,t2,t3,t4,_⟩:=h.md.pl.give h1 h48 (i:=i) (by omega) hm hm0
   have p1:PutS (putX X (m / 64) (grO (O.set m (0,0)) (m / 64))) Q:=hq.adds (hB.g (m / 64) (by omega)).2 (hB.g (m / 64) (by omega)).1 rfl
   have p1l:=p1.le
   have hG:=h.give h1 h48 (i:=i) (by omega) hm hm0 hq hQ hB.g (Below.refl _ w)
   by_cases h10:i<10
   · obtain ⟨hst,hfx⟩:=h.md.pl.dropNear h1 h48 hk h10 hm hm0
     refine (chDrop_yes (R1:=fun V=>∃ P',SInv V P' d p (putX X (m / 64) (grO (O.set m (0,0)) (m / 64)))/\Chg P P' w V) (R:=DropO w0 P0 d p X S N O kk F bf n bc fv Q (fun y F'=>(∀ b,b<138->locX y F' b=if b=i then 0 else locX (N.getD n []) (F n) b)/\num y 13=num (N.getD n []) 13)) h.ch hfar hi hm hm0 hG ?_)
     rintro V ⟨P1,hi1,hg1⟩
     obtain ⟨hfs1,hnb1⟩:=h.md.fs.chg hg1 h.md.nb
     obtain ⟨hch1,hnc1⟩:=h.ch.chg hg1 h.nc
     refine (chSet_near hi1 h.md.wi (by omega) hfs1 t1.tab h1 h48 hch1 hnc1 h10 hfx).mono ?_
     rintro e w' ⟨he,P',hi2,hch,hg,hnc⟩
     obtain ⟨hfs,hnb⟩:=hfs1.chg hg (fun hx=>hx.elim hnb1 fun e=>hfs1.ne_ch hch1 e)
     have hy:(N.set n ((N.getD n []).set (3+i) 0)).getD n []=(N.getD n []).set (3+i) 0:=by rw[getD_n hn,if_pos rfl]
     refine ⟨he,P',_,_,_,_,⟨⟨hi2,h.md.wi,hst.pl,h.md.st,hfs,fun e=>hnb (.inl e)⟩,by rw[hy];exact hch,hnc,h.bb,fun _=>?_,Chg.inner2 (h.cg.trans hg1) hg fun k hk=>by rw[hk];exact h.bb⟩,hst,⟨rfl,rfl⟩,p1.add hB.t rfl,?_,?_⟩
     · obtain ⟨f1,f2,f3,f4,f5,f6⟩:=hbg.chg hg1
       have:=hg.keep bg (Array.getElem?_eq_some_iff.1 f6).1 fun hx=>hx.elim f4 f3
       exact ⟨bg,f1,f2,f3,fun e=>this.2 (.inl e),f5,this.1.trans f6⟩
     · intro b _;rw[hy,locX_near hx h10]
     · rw[hy,num_set (by omega),if_neg (by omega)]
   · have hmz:num (N.getD n []) 13≠0:=fun e=>by
      have:=h.md.pl.fi.m0 n h1 h48 e
      have e2:locX (N.getD n []) (F n) i=num (F n) (i-10):=by unfold locX;rw[if_neg h10,if_neg (by omega)]
      rw[e2,this] at h0
      apply h0
      unfold num
      rw[List.getD_eq_getElem?_getD,List.getElem?_replicate]
      split <;> rfl
     have ho:=h.md.pl.fi.map h1 h48 id hmz
     obtain ⟨k,hkm⟩:∃ k:Nat,num (N.getD n []) 13=(k:Int):=⟨(num (N.getD n []) 13).toNat,by have:=ho.1;omega⟩
     rw[hkm] at ho
     have hko:=ho.1
     have h12:=h.md.pl.ok.k12
     have hoj:=ho.outJ h12
     rw[Int.toNat_natCast] at hoj
     have hkQ:=hB.m hmz
     rw[hkm] at hkQ
     obtain ⟨hst,hL⟩:=h.md.pl.dropFar h1 h48 (by omega) hi hm hm0 hkm (by omega)
     refine (chDrop_yes (R1:=fun V=>∃ P',SInv V P' d p (putX X (m / 64) (grO (O.set m (0,0)) (m / 64)))/\Chg P P' w V) (R:=DropO w0 P0 d p X S N O kk F bf n bc fv Q (fun y F'=>(∀ b,b<138->locX y F' b=if b=i then 0 else locX (N.getD n []) (F n) b)/\num y 13=num (N.getD n []) 13)) h.ch hfar hi hm hm0 hG ?_)
     rintro V ⟨P1,hi1,hg1⟩
     obtain ⟨hfs1,hnb1⟩:=h.md.fs.chg hg1 h.md.nb
     obtain ⟨hch1,hnc1⟩:=h.ch.chg hg1 h.nc
     have hbg1:=hbg.chg hg1
     obtain ⟨f1,f2,f3,f4,f5,f6⟩:=hbg1
     refine (chSet_far hi1 h.md.wi (by omega) hfs1 hch1 hnc1 ⟨f1,f2,f3,f4,f5,f6⟩ (by omega) hi hL hkm (by show k<X.is.length;rw[h.md.isl];omega) (by omega) hoj).mono ?_
     rintro e w' ⟨he,P',hi2,hch,hfa,hg,hnc⟩
     obtain ⟨hfs,hnb⟩:=hfs1.chg hg (fun hx=>hx.elim hnb1 fun e=>hfs1.ne_io f6 f1 e)
     refine ⟨he,P',_,_,_,_,⟨⟨hi2,h.md.wi,hst.pl,h.md.st,hfs,fun e=>hnb (.inl e)⟩,hch,hnc,h.bb,fun _=>⟨bg,by rw[setF_at];exact hfa⟩,Chg.inner2 (h.cg.trans hg1) hg fun k hk=>by rw[hk];exact f2⟩,hst,⟨rfl,rfl⟩,p1.add hkQ rfl,?_,rfl⟩
     intro b _;rw[setF_at,locX_far (h.md.pl.fi.fl n).1 (by omega) hi]
theorem Chs.dropMap (h:Chs w0 P0 w P d p X S N O kk F bf n 10 bc fv) (h1:1<=n) (h48:n<48) (hk:kindN N n≠0) (hq:PutS X Q) (hQ:Q.length<=35) (hB:Base Q S kk n (num (N.getD n []) 13)):
 Calls Tryz.prog 47 #[.pointer (some ⟨bc,0,none⟩)] w fun e w'=>e=.returned (.int .i64 0)/\∃ P' X' N' O' F',Fmd w' P' d p X' S N' O' kk F' bf/\Cst S kk X.call N O F n X'.call N' O' F'/\Onw X X'/\PutS X' Q/\Chg P0 P' w0 w'/\
  (∀ b,b<138->locX (N'.getD n []) (F' n) b=locX (N.getD n []) (F n) b)/\(num (N'.getD n []) 13≠0 ↔ num (N.getD n []) 13≠0/\anyN (F n)=true):=by
 obtain ⟨bg,hbg⟩:=h.far (Nat.le_refl _)
 by_cases h0:num (N.getD n []) 13=0
 · refine (chDropMap_none h.ch h0).mono ?_
   rintro e w' ⟨he,rfl⟩
   exact ⟨he,P,X,N,O,F,h.md,Cst.refl h.md.pl n,Onw.refl X,hq,h.cg,fun b _=>rfl,⟨fun e=>absurd h0 e,fun e=>e.1⟩⟩
 · cases hz:anyN (F n)
   · have ho:=h.md.pl.fi.map h1 h48 id h0
     obtain ⟨m,hm⟩:∃ m:Nat,num (N.getD n []) 13=(m:Int):=⟨(num (N.getD n []) 13).toNat,by have:=ho.1;omega⟩
     have hm0:m≠0:=by omega
     have hx:=h.md.pl.tab.n.get h48
     have hn:n<N.length:=by rw[h.md.pl.tab.n.len];exact h48
     obtain ⟨t1,t2,t3,t4,_⟩:=h.md.pl.give h1 h48 (i:=138) (by omega) (f:=m) hm hm0
     obtain ⟨hst,hfx⟩:=h.md.pl.dropMap h1 h48 hk hm hm0 hz
     have p1:PutS (putX X (m / 64) (grO (O.set m (0,0)) (m / 64))) Q:=hq.adds (hB.g (m / 64) (by omega)).2 (hB.g (m / 64) (by omega)).1 rfl
     have p1l:=p1.le
     have hd:Below w.heap.size w w.drew:=(Below.refl _ _).drew
     have hG:=h.give h1 h48 (i:=138) (by omega) (m:=m) hm hm0 hq hQ hB.g hd
     refine (chDropMap_yes (X:=putX X (m / 64) (grO (O.set m (0,0)) (m / 64))) hbg hz hm hm0 (hG.mono fun e w' ⟨he,P',hi,hg⟩=>⟨he,P',hi,(Chg.of_below hd).trans hg⟩) h.md.wi (by omega) h.md.fs h.md.nb t1.tab h1 h48 h.ch h.nc hfx).mono ?_
     rintro e w' ⟨he,P',hi,hg,hnc⟩
     obtain ⟨hfs,hnb⟩:=h.md.fs.chg hg (fun hx=>hx.elim h.md.nb fun e=>h.md.fs.ne_ch h.ch e)
     have hy:(N.set n ((N.getD n []).set 13 0)).getD n []=(N.getD n []).set 13 0:=by rw[getD_n hn,if_pos rfl]
     refine ⟨he,P',_,_,_,_,⟨hi,h.md.wi,hst.pl,h.md.st,hfs,fun e=>hnb (.inl e)⟩,hst,⟨rfl,rfl⟩,p1.add hB.t rfl,Chg.inner2 h.cg hg fun k hk=>by rw[hk];exact h.bb,fun b hb=>?_,?_⟩
     · rw[hy,locX_map' hx,if_neg (by omega)]
     · rw[hy,num_set (by omega),if_pos rfl]
       exact ⟨fun e=>absurd rfl e,fun e=>by cases e.2⟩
   · refine (chDropMap_keep h.ch h0 hbg hz).mono ?_
     rintro e w' ⟨he,rfl⟩
     exact ⟨he,P,X,N,O,F,h.md,Cst.refl h.md.pl n,Onw.refl X,hq,h.cg,fun b _=>rfl,⟨fun e=>⟨e,rfl⟩,fun e=>e.1⟩⟩
end
end Go.Proofs.YtaakepjgpnaecaaGreat
