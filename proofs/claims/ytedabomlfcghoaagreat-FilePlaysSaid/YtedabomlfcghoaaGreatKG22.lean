/- What the law rests on: part 22. -/
import Derived.Test.YtedabomlfcghoaaGreatKG21
set_option linter.unusedVariables false
namespace Go.Proofs.YtedabomlfcghoaaGreat
set_option maxRecDepth 100000
open Go.RowKit BM
section
variable {w:World}{P:Nat->Prop}{d p:Value}{X:XSt}{S:List Int}{N:List (List Int)}{O:List (Int × Int)}{kk:Nat}{bf:Nat}
theorem chAddMap_full{W:World}{bc:Nat}(hK:Calls Tryz.prog 112 #[.pointer (some ⟨bc,0,none⟩),.int .i64 0,.int .i64 65535] W fun e w'=>e=.returned (.tuple #[.int .i64 0,.int .i64 13])/\Below W.heap.size W w'):
 Calls Tryz.prog 111 #[.pointer (some ⟨bc,0,none⟩)] W fun e w'=>e=.returned (.int .i64 13)/\Below W.heap.size W w':=by
 have K:=hid hK;clear hK;go_enter Tryz.func111,Tryz.ntmps111;go_wp2_with (go_at_call 112;refine K.out.mono ?_;rintro e w' ⟨rfl,hb⟩)
 go_ret;exact⟨rfl,hb⟩
set_option maxHeartbeats 1000000 in
theorem chAddMap_yes{bc m:Nat}(hK:Calls Tryz.prog 112 #[.pointer (some ⟨bc,0,none⟩),.int .i64 0,.int .i64 65535] w fun e w'=>e=.returned (.tuple #[.int .i64 m,.int .i64 0])/\∃ P',SInv w' P' d p X/\Chg P P' w w')
 (hw:X.wi=true) (hp:X.put.length<37) (hf:FsAt w bf p) (hnf:¬ P bf) (hT:Tab X.call S N) {n:Nat} (h1:1<=n) (h48:n<48) {x:List Int} {fv:Value} (hc:ChAt w bc bf n x fv) (hnb:¬ P bc) (hfx:frmI (x.set 13 m)=true):
 Calls Tryz.prog 111 #[.pointer (some ⟨bc,0,none⟩)] w fun e w'=>e=.returned (.int .i64 0)/\∃ P',SInv w' P' d p (putI X S N n (x.set 13 m))/\ChAt w' bc bf n (x.set 13 m) fv/\Chg (PM P (·=bc)) (PM P' (·=bc)) w w'/\¬ P' bc:=by
 have K:=hid hK;have HX:Hid ((x.set 13 (m:Int)).length=14):=hid (by rw[List.length_set];exact hc.1);have u1:=Tryz.underlying47;obtain⟨y,hy⟩:∃ y,y=x.set 13 (m:Int):=⟨_,rfl⟩;rw[<- hy] at hfx HX |-
 have HC:Hid (∀ V P',Chg P P' w V->V.cell? ⟨bc,15,none⟩=some (.int .i64 (num x 13))/\V.frozen? ⟨bc,15,none⟩=false):=hid fun V P' hv=>⟨(hc.chg hv hnb).1.cm,(hc.chg hv hnb).1.free 15⟩
 have HD:Hid (∀ V P',Chg P P' w V->SInv V P' d p X->ChAt (V.setCell ⟨bc,15,none⟩ (.int .i64 m)).drew bc bf n y fv/\Chg (PM P (·=bc)) (PM P' (·=bc)) w (V.setCell ⟨bc,15,none⟩ (.int .i64 m)).drew/\
  Calls Tryz.prog 48 #[.pointer (some ⟨bf,0,none⟩),.int .i64 n,.agg (iC y).toArray] (V.setCell ⟨bc,15,none⟩ (.int .i64 m)).drew fun e w'=>e=.returned (.int .i64 0)/\∃ P'',SInv w' P'' d p (putI X S N n y)/\ChAt w' bc bf n y fv/\Chg P' P'' (V.setCell ⟨bc,15,none⟩ (.int .i64 m)).drew w'/\¬ P'' bc):=hid fun V P' hv hi=>by
  obtain⟨hc2,hn2⟩:=hc.chg hv hnb;obtain⟨hf2,hnf2⟩:=hf.chg hv hnf;have hw3:=Wrote.setCell V bc 15 (.int .i64 (m:Int));have hc3:=hc2.setN (k:=13) (by decide) (m:Int);rw[show 2+13=15 by rfl,<- hy] at hc3;have hd:=(Below.refl (V.setCell ⟨bc,15,none⟩ (.int .i64 (m:Int))).heap.size (V.setCell ⟨bc,15,none⟩ (.int .i64 (m:Int)))).drew;have hf3:FsAt (V.setCell ⟨bc,15,none⟩ (.int .i64 (m:Int))) bf p:=(hw3.2.2.2.2 bf (hf2.ne_ch hc2)).trans hf2;exact⟨hc3.low hd,(hv.pm _).trans ((Chg.one (P:=P') hw3).trans (Chg.of_below hd)),nodeP ((hi.wrote hw3 hn2).low hd) hw hp (hf3.low hd) hT h1 h48 (hc3.low hd) hn2 hfx⟩
 obtain⟨m0,hm0⟩:∃ m0,m0=num x 13:=⟨_,rfl⟩;rw[<- hm0] at HC;clear hK hw hp hf hnf hT h1 h48 hc hnb hfx hy hm0;go_enter Tryz.func111,Tryz.ntmps111;go_upto_region 5 with(go_at_call 112;refine K.out.mono ?_;rintro e w2 ⟨rfl,P2,hi2,hg2⟩;obtain⟨c15,f15⟩:=HC.out _ _ hg2)
 obtain⟨hS,hg3,hk3⟩:=HD.out _ _ hg2 hi2;have HG:=hid hg3;have KP:=hid hk3;clear hg2 hi2 c15 f15 hg3 hk3;refine wp_region_held_drew (S:=fun W=>ChAt W bc bf n y fv) (by kernel_rfl) hS (fun hHeld=>?_);clear hHeld;refine tk 0 (.pointer (some ⟨bc,0,none⟩)) rfl (by kernel_rfl) (fun _ _ _ h=>h) (Or.inl ⟨by rfl,?_⟩) (by assumption) ?_
 . intro W hM;go_simp
 (try simp only[Act.put,q1,q2,q3,q4,q5,q6])
 refine tk 1 (.pointer (some ⟨bc,0,none⟩)) rfl (by kernel_rfl) (fun _ _ _ h=>h) (Or.inl ⟨by rfl,?_⟩) (by assumption) ?_
 . intro W hM;go_simp
 (try simp only[Act.put,q1,q2,q3,q4,q5,q6])
 refine tk 2 (.pointer (some ⟨bc,0,none⟩)) rfl (by kernel_rfl) (fun _ _ _ h=>h) (Or.inl ⟨by rfl,?_⟩) (by assumption) ?_
 . intro W hM;go_simp
 (try simp only[Act.put,q1,q2,q3,q4,q5,q6])
 refine tk 3 (.pointer (some ⟨bf,0,none⟩)) rfl (by kernel_rfl) (fun _ _ _ h=>h) (Or.inl ⟨by rfl,?_⟩) (by assumption) ?_
 . intro W hM;have f0:=hM.c0;go_simp
 (try simp only[Act.put,q1,q2,q3,q4,q5,q6])
 refine tk 4 (.pointer (some ⟨bc,0,none⟩)) rfl (by kernel_rfl) (fun _ _ _ h=>h) (Or.inl ⟨by rfl,?_⟩) (by assumption) ?_
 . intro W hM;go_simp
 (try simp only[Act.put,q1,q2,q3,q4,q5,q6])
 refine tk 5 (.pointer (some ⟨bc,0,none⟩)) rfl (by kernel_rfl) (fun _ _ _ h=>h) (Or.inl ⟨by rfl,?_⟩) (by assumption) ?_
 . intro W hM;go_simp
 (try simp only[Act.put,q1,q2,q3,q4,q5,q6])
 refine tk 6 (.pointer (some ⟨bc,1,none⟩)) rfl (by kernel_rfl) (fun _ _ _ h=>h) (Or.inl ⟨by rfl,?_⟩) (by assumption) ?_
 . intro W hM;go_simp
 (try simp only[Act.put,q1,q2,q3,q4,q5,q6])
 refine tk 7 (.int .i64 n) rfl (by kernel_rfl) (fun _ _ _ h=>h) (Or.inl ⟨by rfl,?_⟩) (by assumption) ?_
 . intro W hM;have f1:=hM.c1;go_simp
 (try simp only[Act.put,q1,q2,q3,q4,q5,q6])
 refine tk 8 (.pointer (some ⟨bc,0,none⟩)) rfl (by kernel_rfl) (fun _ _ _ h=>h) (Or.inl ⟨by rfl,?_⟩) (by assumption) ?_
 . intro W hM;go_simp
 (try simp only[Act.put,q1,q2,q3,q4,q5,q6])
 refine tk 9 (.pointer (some ⟨bc,0,none⟩)) rfl (by kernel_rfl) (fun _ _ _ h=>h) (Or.inl ⟨by rfl,?_⟩) (by assumption) ?_
 . intro W hM;go_simp
 (try simp only[Act.put,q1,q2,q3,q4,q5,q6])
 refine tk 10 (.pointer (some ⟨bc,2,none⟩)) rfl (by kernel_rfl) (fun _ _ _ h=>h) (Or.inl ⟨by rfl,?_⟩) (by assumption) ?_
 . intro W hM;go_simp
 (try simp only[Act.put,q1,q2,q3,q4,q5,q6])
 refine tk 11 (.agg (iC y).toArray) rfl (by kernel_rfl) (fun _ _ _ h=>h) (yieldsIf_load_mid rfl 47 (.tmp 28) rfl bc 2 rfl (iC y) _ (fun W hW=>hW.rng) u1 rfl (by rw[Zhi,Zao,HX.out])) (by assumption) ?_
 (try simp only[Act.put,q1,q2,q3,q4,q5,q6])
 refine wpAnyH_ready (rs:=[12]) (by kernel_rfl) (by simp) (AllReadyH.cons rfl (fun K hK=>?_) AllReadyH.nil)
 go_simp
 go_at_call 48
 refine KP.out.mono ?_;rintro e w4 ⟨rfl,P4,hi4,hc4,hg4⟩;refine hK.out _ _ hc4 (fun hHeld=>?_);clear hK K hHeld
 (try simp only[Act.put,q1,q2,q3,q4,q5,q6])
 refine tk 13 (.int .i64 0) rfl (by kernel_rfl) (fun _ _ _ h=>h) (Or.inl ⟨by rfl,?_⟩) (by assumption) ?_
 . intro W hM;go_simp
 (try simp only[Act.put,q1,q2,q3,q4,q5,q6])
 refine wpAnyH_done (by kernel_rfl) ?_ _;go_wp2;go_ret;exact⟨rfl,P4,hi4,hc4,HG.out.trans (hg4.1.pm _),hg4.2⟩
theorem fsGive_yes(h:SInv w P d p X)(hw:X.wi=true)(hp:X.put.length<=35)(hH:Has X.call O kk)(hO:OOk O kk)(hf:FsAt w bf p){m:Nat}(hm:m<64*kk)(hx:fixB (m:Int)=false)(hfr:Zbh O m=false):
 Calls Tryz.prog 118 #[.pointer (some ⟨bf,0,none⟩),.int .i64 m] w fun e w'=>e=.returned (.int .i64 0)/\∃ P',SInv w' P' d p (putX X (m / 64) (grO (O.set m (0,0)) (m / 64)))/\Chg P P' w w':=
 (fsGive_any (R:=fun E w'=>E=0/\∃ P',SInv w' P' d p (putX X (m / 64) (grO (O.set m (0,0)) (m / 64)))/\Chg P P' w w') hf ((spGive_yes h hw hp hH hO hm hx hfr).mono fun e w' ⟨he,hr⟩=>⟨0,he,rfl,hr⟩)).mono fun e w' ⟨E,he,hE,hr⟩=>by rw[hE] at he;exact⟨he,hr⟩
theorem chDrop_hole{W:World}{bc n B:Nat}{x F:List Int}{fv:Value}(hc:ChAt W bc bf n x fv){i:Nat}(hF:10<=i->∃ bg,FarA W B bc P fv F bg)(hi:i<138)(h0:locX x F i=0):
 Calls Tryz.prog 69 #[.pointer (some ⟨bc,0,none⟩),.int .i64 i] W fun e w'=>e=.returned (.int .i64 0)/\W=w':=by
 have K:=hid (chAt_of hc hF hi);rw[h0] at K;clear hc hF h0;go_enter Tryz.func69,Tryz.ntmps69;go_wp2_with (go_at_call 103;refine K.out.mono ?_;rintro e w' ⟨rfl,rfl⟩)
 go_ret;exact⟨rfl,rfl⟩
theorem chDrop_yes{W:World}{bc n B:Nat}{x F:List Int}{fv:Value}(hc:ChAt W bc bf n x fv){i:Nat}(hF:10<=i->∃ bg,FarA W B bc P fv F bg)(hi:i<138){m:Nat}(hm:locX x F i=(m:Int))(hm0:m≠0){R1 R:World->Prop}
 (hG:Calls Tryz.prog 118 #[.pointer (some ⟨bf,0,none⟩),.int .i64 m] W fun e w'=>e=.returned (.int .i64 0)/\R1 w')
 (hS:∀ V,R1 V->Calls Tryz.prog 114 #[.pointer (some ⟨bc,0,none⟩),.int .i64 i,.int .i64 0] V fun e w'=>e=.returned (.int .i64 0)/\R w'):
 Calls Tryz.prog 69 #[.pointer (some ⟨bc,0,none⟩),.int .i64 i] W fun e w'=>e=.returned (.int .i64 0)/\R w':=by
 have K:=hid (chAt_of hc hF hi);rw[hm] at K;have KG:=hid hG;have KS:=hid hS;have c0:=hc.c0;have hz:((m:Int)==0)=false:=by simp;omega
 clear hc hF hm hm0 hG hS;go_enter Tryz.func69,Tryz.ntmps69
 go_wp2_with (first
  |(go_at_call 103;refine K.out.mono ?_;rintro e w' ⟨rfl,rfl⟩)
  |(go_at_call 118;refine KG.out.mono ?_;rintro e w2 ⟨rfl,hr1⟩)
  |(go_at_call 114;refine(KS.out _ hr1).mono ?_;rintro e w3 ⟨rfl,hr3⟩))
 go_ret;exact⟨rfl,hr3⟩
theorem chDropMap_none{W:World}{bc n:Nat}{x:List Int}{fv:Value}(hc:ChAt W bc bf n x fv)(h0:num x 13=0):
 Calls Tryz.prog 70 #[.pointer (some ⟨bc,0,none⟩)] W fun e w'=>e=.returned (.int .i64 0)/\W=w':=by
 have cm:=hc.cm;rw[h0] at cm;clear hc h0;go_enter Tryz.func70,Tryz.ntmps70;go_wp2;go_ret;exact⟨rfl,rfl⟩
theorem chDropMap_keep{W:World}{bc n B bg:Nat}{x F:List Int}{fv:Value}(hc:ChAt W bc bf n x fv)(h0:num x 13≠0)(hF:FarA W B bc P fv F bg)(hn:anyN F=true):
 Calls Tryz.prog 70 #[.pointer (some ⟨bc,0,none⟩)] W fun e w'=>e=.returned (.int .i64 0)/\W=w':=by
 have cm:=hc.cm;have cf:=hc.cf;have K:=hid (slContF_of hF.isl (by rw[hF.1];decide) hn);obtain⟨m,hm⟩:∃ m,m=num x 13:=⟨_,rfl⟩;rw[<- hm] at cm h0;have hz:(m==0)=false:=by simpa using h0
 clear hc h0 hF hn hm;go_enter Tryz.func70,Tryz.ntmps70;go_wp2_with (go_at_call 119;refine K.out.mono ?_;rintro e w' ⟨rfl,rfl⟩)
 go_ret;exact⟨rfl,rfl⟩
set_option maxHeartbeats 1000000 in
theorem chDropMap_yes{bc n B bg:Nat}{x F:List Int}{fv:Value}{m:Nat}(hF:FarA w B bc P fv F bg)(hn:anyN F=false)(hm:num x 13=(m:Int))(hm0:m≠0)
 (hK:Calls Tryz.prog 118 #[.pointer (some ⟨bf,0,none⟩),.int .i64 m] w.drew fun e w'=>e=.returned (.int .i64 0)/\∃ P',SInv w' P' d p X/\Chg P P' w w')
 (hw:X.wi=true) (hp:X.put.length<37) (hf:FsAt w bf p) (hnf:¬ P bf) (hT:Tab X.call S N) (h1:1<=n) (h48:n<48) (hc:ChAt w bc bf n x fv) (hnb:¬ P bc) (hfx:frmI (x.set 13 0)=true):
 Calls Tryz.prog 70 #[.pointer (some ⟨bc,0,none⟩)] w fun e w'=>e=.returned (.int .i64 0)/\∃ P',SInv w' P' d p (putI X S N n (x.set 13 0))/\Chg (PM P (·=bc)) (PM P' (·=bc)) w w'/\¬ P' bc:=by
 have K:=hid hK;have KN:=hid (slContF_of hF.isl (by rw[hF.1];decide) hn);have HX:Hid ((x.set 13 (0:Int)).length=14):=hid (by rw[List.length_set];exact hc.1);have u1:=Tryz.underlying47;obtain⟨y,hy⟩:∃ y,y=x.set 13 (0:Int):=⟨_,rfl⟩;rw[<- hy] at hfx HX |-
 have c0:=hc.c0;have cm:=hc.cm;have cf:=hc.cf;rw[hm] at cm;have hz:((m:Int)==0)=false:=by simp;omega
 have HC:Hid (∀ V P',Chg P P' w V->V.cell? ⟨bc,15,none⟩=some (.int .i64 (m:Nat))/\V.frozen? ⟨bc,15,none⟩=false):=hid fun V P' hv=>⟨by rw[(hc.chg hv hnb).1.cm,hm],(hc.chg hv hnb).1.free 15⟩
 have HD:Hid (∀ V P',Chg P P' w V->SInv V P' d p X->ChAt (V.setCell ⟨bc,15,none⟩ (.int .i64 0)).drew bc bf n y fv/\Chg (PM P (·=bc)) (PM P' (·=bc)) w (V.setCell ⟨bc,15,none⟩ (.int .i64 0)).drew/\
  Calls Tryz.prog 48 #[.pointer (some ⟨bf,0,none⟩),.int .i64 n,.agg (iC y).toArray] (V.setCell ⟨bc,15,none⟩ (.int .i64 0)).drew fun e w'=>e=.returned (.int .i64 0)/\∃ P'',SInv w' P'' d p (putI X S N n y)/\ChAt w' bc bf n y fv/\Chg P' P'' (V.setCell ⟨bc,15,none⟩ (.int .i64 0)).drew w'/\¬ P'' bc):=hid fun V P' hv hi=>by
  obtain⟨hc2,hn2⟩:=hc.chg hv hnb;obtain⟨hf2,hnf2⟩:=hf.chg hv hnf;have hw3:=Wrote.setCell V bc 15 (.int .i64 (0:Int));have hc3:=hc2.setN (k:=13) (by decide) (0:Int);rw[show 2+13=15 by rfl,<- hy] at hc3;have hd:=(Below.refl (V.setCell ⟨bc,15,none⟩ (.int .i64 (0:Int))).heap.size (V.setCell ⟨bc,15,none⟩ (.int .i64 (0:Int)))).drew;have hf3:FsAt (V.setCell ⟨bc,15,none⟩ (.int .i64 (0:Int))) bf p:=(hw3.2.2.2.2 bf (hf2.ne_ch hc2)).trans hf2;exact⟨hc3.low hd,(hv.pm _).trans ((Chg.one (P:=P') hw3).trans (Chg.of_below hd)),nodeP ((hi.wrote hw3 hn2).low hd) hw hp (hf3.low hd) hT h1 h48 (hc3.low hd) hn2 hfx⟩
 clear hK hw hp hf hnf hT h1 h48 hc hnb hfx hy hF hn hm hm0;go_enter Tryz.func70,Tryz.ntmps70;go_upto_region 3 with(go_at_call 119;refine KN.out.mono ?_;rintro e w' ⟨rfl,rfl⟩)
 go_still_tail 9,(by kernel_rfl)
 go_upto_region 7 with(go_at_call 118;refine K.out.mono ?_;rintro e w2 ⟨rfl,P2,hi2,hg2⟩;obtain⟨c15,f15⟩:=HC.out _ _ hg2)
 obtain⟨hS,hg3,hk3⟩:=HD.out _ _ hg2 hi2;have HG:=hid hg3;have KP:=hid hk3;clear hg2 hi2 c15 f15 hg3 hk3;refine wp_region_held_drew (S:=fun W=>ChAt W bc bf n y fv) (by kernel_rfl) hS (fun hHeld=>?_);clear hHeld;refine tk 0 (.pointer (some ⟨bc,0,none⟩)) rfl (by kernel_rfl) (fun _ _ _ h=>h) (Or.inl ⟨by rfl,?_⟩) (by assumption) ?_
 . intro W hM;go_simp
 (try simp only[Act.put,q1,q2,q3,q4,q5,q6])
 refine tk 1 (.pointer (some ⟨bc,0,none⟩)) rfl (by kernel_rfl) (fun _ _ _ h=>h) (Or.inl ⟨by rfl,?_⟩) (by assumption) ?_
 . intro W hM;go_simp
 (try simp only[Act.put,q1,q2,q3,q4,q5,q6])
 refine tk 2 (.pointer (some ⟨bc,0,none⟩)) rfl (by kernel_rfl) (fun _ _ _ h=>h) (Or.inl ⟨by rfl,?_⟩) (by assumption) ?_
 . intro W hM;go_simp
 (try simp only[Act.put,q1,q2,q3,q4,q5,q6])
 refine tk 3 (.pointer (some ⟨bf,0,none⟩)) rfl (by kernel_rfl) (fun _ _ _ h=>h) (Or.inl ⟨by rfl,?_⟩) (by assumption) ?_
 . intro W hM;have f0:=hM.c0;go_simp
 (try simp only[Act.put,q1,q2,q3,q4,q5,q6])
 refine tk 4 (.pointer (some ⟨bc,0,none⟩)) rfl (by kernel_rfl) (fun _ _ _ h=>h) (Or.inl ⟨by rfl,?_⟩) (by assumption) ?_
 . intro W hM;go_simp
 (try simp only[Act.put,q1,q2,q3,q4,q5,q6])
 refine tk 5 (.pointer (some ⟨bc,0,none⟩)) rfl (by kernel_rfl) (fun _ _ _ h=>h) (Or.inl ⟨by rfl,?_⟩) (by assumption) ?_
 . intro W hM;go_simp
 (try simp only[Act.put,q1,q2,q3,q4,q5,q6])
 refine tk 6 (.pointer (some ⟨bc,1,none⟩)) rfl (by kernel_rfl) (fun _ _ _ h=>h) (Or.inl ⟨by rfl,?_⟩) (by assumption) ?_
 . intro W hM;go_simp
 (try simp only[Act.put,q1,q2,q3,q4,q5,q6])
 refine tk 7 (.int .i64 n) rfl (by kernel_rfl) (fun _ _ _ h=>h) (Or.inl ⟨by rfl,?_⟩) (by assumption) ?_
 . intro W hM;have f1:=hM.c1;go_simp
 (try simp only[Act.put,q1,q2,q3,q4,q5,q6])
 refine tk 8 (.pointer (some ⟨bc,0,none⟩)) rfl (by kernel_rfl) (fun _ _ _ h=>h) (Or.inl ⟨by rfl,?_⟩) (by assumption) ?_
 . intro W hM;go_simp
 (try simp only[Act.put,q1,q2,q3,q4,q5,q6])
 refine tk 9 (.pointer (some ⟨bc,0,none⟩)) rfl (by kernel_rfl) (fun _ _ _ h=>h) (Or.inl ⟨by rfl,?_⟩) (by assumption) ?_
 . intro W hM;go_simp
 (try simp only[Act.put,q1,q2,q3,q4,q5,q6])
 refine tk 10 (.pointer (some ⟨bc,2,none⟩)) rfl (by kernel_rfl) (fun _ _ _ h=>h) (Or.inl ⟨by rfl,?_⟩) (by assumption) ?_
 . intro W hM;go_simp
 (try simp only[Act.put,q1,q2,q3,q4,q5,q6])
 refine tk 11 (.agg (iC y).toArray) rfl (by kernel_rfl) (fun _ _ _ h=>h) (yieldsIf_load_mid rfl 47 (.tmp 44) rfl bc 2 rfl (iC y) _ (fun W hW=>hW.rng) u1 rfl (by rw[Zhi,Zao,HX.out])) (by assumption) ?_
 (try simp only[Act.put,q1,q2,q3,q4,q5,q6])
 refine wpAnyH_ready (rs:=[12]) (by kernel_rfl) (by simp) (AllReadyH.cons rfl (fun K hK=>?_) AllReadyH.nil)
 go_simp
 go_at_call 48
 refine KP.out.mono ?_;rintro e w4 ⟨rfl,P4,hi4,hc4,hg4⟩;refine hK.out _ _ hc4 (fun hHeld=>?_);clear hK K hHeld
 (try simp only[Act.put,q1,q2,q3,q4,q5,q6])
 refine tk 13 (.int .i64 0) rfl (by kernel_rfl) (fun _ _ _ h=>h) (Or.inl ⟨by rfl,?_⟩) (by assumption) ?_
 . intro W hM;go_simp
 (try simp only[Act.put,q1,q2,q3,q4,q5,q6])
 refine wpAnyH_done (by kernel_rfl) ?_ _;go_wp2;go_ret;exact⟨rfl,P4,hi4,HG.out.trans (hg4.1.pm _),hg4.2⟩
end
section
variable {w:World}{f:Value}{n i:Nat}{R0 R1 R2:Nat->World->Prop}{R3:World->Prop}
theorem fmMap_err{i:Int}(hO:Calls Tryz.prog 102 #[f,.int .i64 n,.int .i64 i] w fun e w'=>e=.returned (.tuple #[.pointer none,.int .i64 1])/\R3 w'):
 Calls Tryz.prog 66 #[f,.int .i64 n,.int .i64 i] w fun e w'=>e=.returned (.tuple #[.int .i64 0,.int .i64 1])/\R3 w':=by
 have K:=hid hO;clear hO;go_enter Tryz.func66,Tryz.ntmps66;go_wp2_with (go_at_call 102;refine K.out.mono ?_;rintro e w2 ⟨rfl,h2⟩)
 go_ret2;exact⟨rfl,h2⟩
theorem fmMap_was{v:Int}(hv:v≠0)(hO:Calls Tryz.prog 102 #[f,.int .i64 n,.int .i64 i] w fun e w'=>∃ bc,e=.returned (.tuple #[.pointer (some ⟨bc,0,none⟩),.int .i64 0])/\R0 bc w')
 (hA:∀ bc V,R0 bc V->Calls Tryz.prog 103 #[.pointer (some ⟨bc,0,none⟩),.int .i64 i] V fun e w'=>e=.returned (.int .i64 v)/\V=w'):
 Calls Tryz.prog 66 #[f,.int .i64 n,.int .i64 i] w fun e w'=>e=.returned (.tuple #[.int .i64 v,.int .i64 0])/\∃ bc,R0 bc w':=by
 have K:=hid hO;have KA:=hid hA;have hz:(v != 0)=true:=by simpa using hv
 clear hO hA hv;go_enter Tryz.func66,Tryz.ntmps66
 go_wp2_with (first
  |(go_at_call 102;refine K.out.mono ?_;rintro e w2 ⟨bc,rfl,h2⟩)
  |(go_at_call 103;refine(KA.out _ _ h2).mono ?_;rintro e w' ⟨rfl,rfl⟩))
 go_ret2;exact⟨rfl,bc,h2⟩
theorem fmMap_go{mp g:Int}{E v:Int}(hmp:¬ ((10:Int)<=i/\mp=0))(hO:Calls Tryz.prog 102 #[f,.int .i64 n,.int .i64 i] w fun e w'=>∃ bc,e=.returned (.tuple #[.pointer (some ⟨bc,0,none⟩),.int .i64 0])/\R0 bc w')
 (hA:∀ bc V,R0 bc V->Calls Tryz.prog 103 #[.pointer (some ⟨bc,0,none⟩),.int .i64 i] V fun e w'=>e=.returned (.int .i64 0)/\V=w')
 (hc:∀ bc V,R0 bc V->V.cell? ⟨bc,15,none⟩=some (.int .i64 mp))
 (hG:∀ bc V,R0 bc V->Calls Tryz.prog 113 #[.pointer (some ⟨bc,0,none⟩),.int .i64 i] V fun e w'=>e=.returned (.int .i64 g)/\V=w')
 (hT:∀ bc V,R0 bc V->Calls Tryz.prog 112 #[.pointer (some ⟨bc,0,none⟩),.int .i64 g,.int .i64 i] V fun e w'=>e=.returned (.tuple #[.int .i64 v,.int .i64 E])/\R2 bc w')
 (hS:E=0->∀ bc V,R2 bc V->Calls Tryz.prog 114 #[.pointer (some ⟨bc,0,none⟩),.int .i64 i,.int .i64 v] V fun e w'=>e=.returned (.int .i64 0)/\R3 w'):
 Calls Tryz.prog 66 #[f,.int .i64 n,.int .i64 i] w fun e w'=>(E=0/\e=.returned (.tuple #[.int .i64 v,.int .i64 0])/\R3 w')\/(E≠0/\e=.returned (.tuple #[.int .i64 0,.int .i64 E])/\∃ bc,R2 bc w'):=by
 have K:=hid hO;have KA:=hid hA;have KC:=hid hc;have KG:=hid hG;have KT:=hid hT;by_cases hE:E=0
 . subst hE
   have KS:=hid (hS rfl);clear hO hA hc hG hT hS;by_cases h10:(10:Int)<=i
   . have hz:(mp==0)=false:=by simpa using fun e=>hmp ⟨h10,e⟩
     clear hmp;go_enter Tryz.func66,Tryz.ntmps66
     go_wp2_with (first
      |(go_at_call 102;refine K.out.mono ?_;rintro e w2 ⟨bc,rfl,h2⟩;have c15:=KC.out _ _ h2)
      |(go_at_call 103;refine(KA.out _ _ h2).mono ?_;rintro e w' ⟨rfl,rfl⟩)
      |(go_at_call 113;refine(KG.out _ _ h2).mono ?_;rintro e w' ⟨rfl,rfl⟩)
      |(go_at_call 112;refine(KT.out _ _ h2).mono ?_;rintro e w3 ⟨rfl,h3⟩)
      |(go_at_call 114;refine(KS.out _ _ h3).mono ?_;rintro e w4 ⟨rfl,h4⟩))
     go_ret2;exact .inl ⟨by trivial,rfl,h4⟩
   . clear hmp
     go_enter Tryz.func66,Tryz.ntmps66
     go_wp2_with (first
      |(go_at_call 102;refine K.out.mono ?_;rintro e w2 ⟨bc,rfl,h2⟩;have c15:=KC.out _ _ h2)
      |(go_at_call 103;refine(KA.out _ _ h2).mono ?_;rintro e w' ⟨rfl,rfl⟩)
      |(go_at_call 113;refine(KG.out _ _ h2).mono ?_;rintro e w' ⟨rfl,rfl⟩)
      |(go_at_call 112;refine(KT.out _ _ h2).mono ?_;rintro e w3 ⟨rfl,h3⟩)
      |(go_at_call 114;refine(KS.out _ _ h3).mono ?_;rintro e w4 ⟨rfl,h4⟩))
     go_ret2;exact .inl ⟨by trivial,rfl,h4⟩
 . have hE2:(E != 0)=true:=by simpa using hE
   have HE:=hid hE;clear hO hA hc hG hT hS hE;by_cases h10:(10:Int)<=i
   . have hz:(mp==0)=false:=by simpa using fun e=>hmp ⟨h10,e⟩
     clear hmp;go_enter Tryz.func66,Tryz.ntmps66
     go_wp2_with (first
      |(go_at_call 102;refine K.out.mono ?_;rintro e w2 ⟨bc,rfl,h2⟩;have c15:=KC.out _ _ h2)
      |(go_at_call 103;refine(KA.out _ _ h2).mono ?_;rintro e w' ⟨rfl,rfl⟩)
      |(go_at_call 113;refine(KG.out _ _ h2).mono ?_;rintro e w' ⟨rfl,rfl⟩)
      |(go_at_call 112;refine(KT.out _ _ h2).mono ?_;rintro e w3 ⟨rfl,h3⟩))
     go_ret2;exact .inr ⟨HE.out,rfl,bc,h3⟩
   . clear hmp
     go_enter Tryz.func66,Tryz.ntmps66
     go_wp2_with (first
      |(go_at_call 102;refine K.out.mono ?_;rintro e w2 ⟨bc,rfl,h2⟩;have c15:=KC.out _ _ h2)
      |(go_at_call 103;refine(KA.out _ _ h2).mono ?_;rintro e w' ⟨rfl,rfl⟩)
      |(go_at_call 113;refine(KG.out _ _ h2).mono ?_;rintro e w' ⟨rfl,rfl⟩)
      |(go_at_call 112;refine(KT.out _ _ h2).mono ?_;rintro e w3 ⟨rfl,h3⟩))
     go_ret2;exact .inr ⟨HE.out,rfl,bc,h3⟩
theorem fmMap_add{g:Int}{M E v:Int}(h10:(10:Int)<=i)(hO:Calls Tryz.prog 102 #[f,.int .i64 n,.int .i64 i] w fun e w'=>∃ bc,e=.returned (.tuple #[.pointer (some ⟨bc,0,none⟩),.int .i64 0])/\R0 bc w')
 (hA:∀ bc V,R0 bc V->Calls Tryz.prog 103 #[.pointer (some ⟨bc,0,none⟩),.int .i64 i] V fun e w'=>e=.returned (.int .i64 0)/\V=w')
 (hc:∀ bc V,R0 bc V->V.cell? ⟨bc,15,none⟩=some (.int .i64 0))
 (hM:∀ bc V,R0 bc V->Calls Tryz.prog 111 #[.pointer (some ⟨bc,0,none⟩)] V fun e w'=>e=.returned (.int .i64 M)/\R1 bc w')
 (hG:M=0->∀ bc V,R1 bc V->Calls Tryz.prog 113 #[.pointer (some ⟨bc,0,none⟩),.int .i64 i] V fun e w'=>e=.returned (.int .i64 g)/\V=w')
 (hT:M=0->∀ bc V,R1 bc V->Calls Tryz.prog 112 #[.pointer (some ⟨bc,0,none⟩),.int .i64 g,.int .i64 i] V fun e w'=>e=.returned (.tuple #[.int .i64 v,.int .i64 E])/\R2 bc w')
 (hS:M=0->E=0->∀ bc V,R2 bc V->Calls Tryz.prog 114 #[.pointer (some ⟨bc,0,none⟩),.int .i64 i,.int .i64 v] V fun e w'=>e=.returned (.int .i64 0)/\R3 w'):
 Calls Tryz.prog 66 #[f,.int .i64 n,.int .i64 i] w fun e w'=>(M≠0/\e=.returned (.tuple #[.int .i64 0,.int .i64 M])/\∃ bc,R1 bc w')\/(M=0/\E=0/\e=.returned (.tuple #[.int .i64 v,.int .i64 0])/\R3 w')\/(M=0/\E≠0/\e=.returned (.tuple #[.int .i64 0,.int .i64 E])/\∃ bc,R2 bc w'):=by
 have K:=hid hO;have KA:=hid hA;have KC:=hid hc;have KM:=hid hM;by_cases hM0:M=0
 . subst hM0
   have KG:=hid (hG rfl);have KT:=hid (hT rfl);by_cases hE:E=0
   . subst hE
     have KS:=hid (hS rfl rfl);clear hO hA hc hM hG hT hS;go_enter Tryz.func66,Tryz.ntmps66
     go_wp2_with (first
      |(go_at_call 102;refine K.out.mono ?_;rintro e w2 ⟨bc,rfl,h2⟩;have c15:=KC.out _ _ h2)
      |(go_at_call 103;refine(KA.out _ _ h2).mono ?_;rintro e w' ⟨rfl,rfl⟩)
      |(go_at_call 111;refine(KM.out _ _ h2).mono ?_;rintro e w3 ⟨rfl,h3⟩)
      |(go_at_call 113;refine(KG.out _ _ h3).mono ?_;rintro e w' ⟨rfl,rfl⟩)
      |(go_at_call 112;refine(KT.out _ _ h3).mono ?_;rintro e w4 ⟨rfl,h4⟩)
      |(go_at_call 114;refine(KS.out _ _ h4).mono ?_;rintro e w5 ⟨rfl,h5⟩))
     go_ret2;exact .inr (.inl ⟨by trivial,by trivial,rfl,h5⟩)
   . have hE2:(E != 0)=true:=by simpa using hE
     have HE:=hid hE;clear hO hA hc hM hG hT hS hE;go_enter Tryz.func66,Tryz.ntmps66
     go_wp2_with (first
      |(go_at_call 102;refine K.out.mono ?_;rintro e w2 ⟨bc,rfl,h2⟩;have c15:=KC.out _ _ h2)
      |(go_at_call 103;refine(KA.out _ _ h2).mono ?_;rintro e w' ⟨rfl,rfl⟩)
      |(go_at_call 111;refine(KM.out _ _ h2).mono ?_;rintro e w3 ⟨rfl,h3⟩)
      |(go_at_call 113;refine(KG.out _ _ h3).mono ?_;rintro e w' ⟨rfl,rfl⟩)
      |(go_at_call 112;refine(KT.out _ _ h3).mono ?_;rintro e w4 ⟨rfl,h4⟩))
     go_ret2;exact .inr (.inr ⟨by trivial,HE.out,rfl,bc,h4⟩)
 . have hM2:(M != 0)=true:=by simpa using hM0
   have HM:=hid hM0;clear hO hA hc hM hG hT hS hM0;go_enter Tryz.func66,Tryz.ntmps66
   go_wp2_with (first
    |(go_at_call 102;refine K.out.mono ?_;rintro e w2 ⟨bc,rfl,h2⟩;have c15:=KC.out _ _ h2)
    |(go_at_call 103;refine(KA.out _ _ h2).mono ?_;rintro e w' ⟨rfl,rfl⟩)
    |(go_at_call 111;refine(KM.out _ _ h2).mono ?_;rintro e w3 ⟨rfl,h3⟩))
   go_ret2;exact .inl ⟨HM.out,rfl,bc,h3⟩
end
structure Fmd (w:World) (P:Nat->Prop) (d p:Value) (X:XSt) (S:List Int) (N:List (List Int)) (O:List (Int × Int)) (kk:Nat) (F:Nat->List Int) (bf:Nat):Prop where
 inv:SInv w P d p X
 wi:X.wi=true
 pl:Pl noEx X.call S N O kk F
 st:Stil S kk
 fs:FsAt w bf p
 nb:¬ P bf
def Onw(X X':XSt):Prop:=X'.is=X.is/\X'.ds=X.ds
theorem Onw.trans{X Y Z:XSt}(h:Onw X Y)(k:Onw Y Z):Onw X Z:=⟨k.1.trans h.1,k.2.trans h.2⟩
theorem Onw.refl(X:XSt):Onw X X:=⟨rfl,rfl⟩
section
variable {w:World}{P:Nat->Prop}{d p:Value}{X:XSt}{S:List Int}{N:List (List Int)}{O:List (Int × Int)}{kk:Nat}{F:Nat->List Int}{bf:Nat}
theorem Fmd.cur(h:Fmd w P d p X S N O kk F bf):X.cur=X.call:=by unfold XSt.cur;rw[if_pos h.wi]
theorem Fmd.isl(h:Fmd w P d p X S N O kk F bf):X.is.length=64*kk:=by rw[<- h.inv.xok.curLen,h.cur];exact h.pl.has.len
theorem Fmd.low(h:Fmd w P d p X S N O kk F bf){w':World}(hb:Below w.heap.size w w'):Fmd w' P d p X S N O kk F bf:={ h with inv:=h.inv.low hb,fs:=h.fs.low hb }
end
structure Chs (w0:World) (P0:Nat->Prop) (w:World) (P:Nat->Prop) (d p:Value) (X:XSt) (S:List Int) (N:List (List Int)) (O:List (Int × Int)) (kk:Nat) (F:Nat->List Int) (bf n i bc:Nat) (fv:Value):Prop where
 md:Fmd w P d p X S N O kk F bf
 ch:ChAt w bc bf n (N.getD n []) fv
 nc:¬ P bc
 bb:w0.heap.size<=bc
 far:10<=i->∃ bg,FarA w w0.heap.size bc P fv (F n) bg
 cg:Chg P0 P w0 w
section
variable {w0 w:World}{P0 P:Nat->Prop}{d p:Value}{X:XSt}{S:List Int}{N:List (List Int)}{O:List (Int × Int)}{kk:Nat}{F:Nat->List Int}{bf n i bc:Nat}{fv:Value}
theorem Chs.open(h:Fmd w P d p X S N O kk F bf)(h1:1<=n)(h48:n<48)(hk:Zbf N n≠0)(hi:i<138):
 Calls Tryz.prog 102 #[.pointer (some ⟨bf,0,none⟩),.int .i64 n,.int .i64 i] w fun e w'=>∃ bc,e=.returned (.tuple #[.pointer (some ⟨bc,0,none⟩),.int .i64 0])/\∃ fv,Chs w P w' P d p X S N O kk F bf n i bc fv:=by
 have hc:=h.cur;refine(fmOpenAt_yes (F:=F) h.inv h.fs (by rw[hc];exact h.pl.tab) (by rw[hc];exact h.pl.fi) h.pl.ok.k12 (by rw[hc];exact h.pl.has.len) h1 h48 hk hi (Below.refl _ _)).mono ?_;rintro e w' ⟨bc,fv,he,hbc,hch,hfa,hb⟩;exact⟨bc,he,fv,h.low hb,hch,fun hp=>by have:=h.inv.lt _ hp;omega,hbc,hfa,Chg.of_below hb⟩
theorem Chs.at(h:Chs w0 P0 w P d p X S N O kk F bf n i bc fv)(hi:i<138):Calls Tryz.prog 103 #[.pointer (some ⟨bc,0,none⟩),.int .i64 i] w fun e w'=>e=.returned (.int .i64 (locX (N.getD n []) (F n) i))/\w=w':=chAt_of h.ch h.far hi
theorem Chs.goal(h:Chs w0 P0 w P d p X S N O kk F bf n i bc fv)(h48:n<48)(hi:i<138):Calls Tryz.prog 113 #[.pointer (some ⟨bc,0,none⟩),.int .i64 i] w fun e w'=>e=.returned (.int .i64 (Zgz (N.getD n []) (F n) i))/\w=w':=
 chGoal_of h.ch h.far hi fun h0=>locX_bd (h.md.pl.tab.n.frm n h48) (h.md.pl.fi.fl n) (by omega)
def takX(X:XSt)(O:List (Int × Int))(f:Nat)(q:Int × Int):XSt:=putB (putX X (f / 64) (grO (O.set f q) (f / 64))) f z256
structure Base (Q:List Int) (S:List Int) (kk n:Nat) (mp:Int):Prop where
 g:∀ g,g<kk->(dscN g:Int)∈Q/\(dscN g:Int)+1∈Q
 t:((Zbq S (n / 8):Nat):Int)∈Q
 m:mp≠0->mp∈Q
theorem PutS.adds{X X':XSt}{Q:List Int}(h:PutS X Q){a b:Int}(ha:a∈Q)(hb:b∈Q)(e:X'.put=addS (addS X.put a) b):PutS X' Q:=
 PutS.add (X:={ X with put:=addS X.put a }) (h.add ha rfl) hb e
theorem PutS.tak{Q:List Int}(h:PutS X Q){f:Nat}{q:Int × Int}(hg:(dscN (f / 64):Int)∈Q/\(dscN (f / 64):Int)+1∈Q):PutS (putX X (f / 64) (grO (O.set f q) (f / 64))) Q/\PutS (takX X O f q) (Q ++ [(f:Int)]):=by
 have h1:PutS (putX X (f / 64) (grO (O.set f q) (f / 64))) Q:=h.adds hg.2 hg.1 rfl;exact⟨h1,(h1.wide fun a ha=>List.mem_append_left _ ha).add (List.mem_append_right _ (List.mem_singleton.2 rfl)) rfl⟩
theorem free_out{f:Nat}(hf:FreeB O kk f)(h12:kk<=12):OutJ f:=by
 have hx:=hf.fx;have:=hf.lt;unfold fixB at hx;have:=of_decide_eq_false hx;unfold OutJ;omega
theorem Chs.take(h:Chs w0 P0 w P d p X S N O kk F bf n i bc fv)(h1:1<=n)(h48:n<48)(g:Int){a:Nat}(ha:a<139){Q:List Int}(hq:PutS X Q)(hQ:Q.length<=35)(hB:∀ g,g<kk->(dscN g:Int)∈Q/\(dscN g:Int)+1∈Q)(hr:(cntU O (64*kk):Int)<62*(kk:Int)-42):
 ∃ f:Nat,FreeB O kk f/\Zit O (64*kk) (Zis (64*kk) g)=f/\PutS (takX X O f (n,atX a)) (Q ++ [(f:Int)])/\
   Calls Tryz.prog 112 #[.pointer (some ⟨bc,0,none⟩),.int .i64 g,.int .i64 (atX a)] w fun e w'=>e=.returned (.tuple #[.int .i64 f,.int .i64 0])/\∃ P',Chs w0 P0 w' P' d p (takX X O f (n,atX a)) S N (O.set f (n,atX a)) kk F bf n i bc fv/\Chg P P' w w':=by
 have hO:=h.md.pl.ok;have h12:=hO.k12;obtain⟨f,f1,f2,f3,f4⟩:=find_free hO (m:=kk) (g:=Zis (64*kk) g) hO.k1 (Nat.le_refl _) (by unfold Zis;have:=hO.k1;split <;> omega) hr;have hf:FreeB O kk f:=⟨f3,f4,f1⟩;have hbd:=atX_bd ha;obtain⟨A,hA⟩:∃ A:Nat,atX a=(A:Int):=⟨(atX a).toNat,by omega⟩;have hfo:=frmO_at h1 h48 ha;obtain⟨p1,p2⟩:=hq.tak (O:=O) (f:=f) (q:=((n:Int),atX a)) (hB (f / 64) (by omega));refine⟨f,hf,f2,p2,?_⟩;have hpl:=(h.md.pl.take hf.fr hf.fx hf.lt (i:=(n:Int)) (j:=atX a) (by omega) hbd hfo (by omega) (by omega)).1;rw[hA] at hbd hfo hpl p1 |-
 refine(chTake_yes (X1:=putX X (f / 64) (grO (O.set f ((n:Int),(A:Int))) (f / 64))) (f:=f) (d:=d) h.ch h.nc h.md.fs h.md.nb h48 (a:=A) (by omega) h.md.inv.lt (fun V hV=>fsTake_yes (h.md.inv.low hV) h.md.wi (by have:=hq.le;omega) h.md.pl.has hO (h.md.fs.low hV) h.md.pl.tab h.md.st g (by omega) hbd hfo (by omega) (by omega) hr f1 f2 f4)
  h.md.wi (by have:=p1.le;omega) (by show f<X.is.length;rw[h.md.isl];exact f1) (by omega) (free_out hf h12)).mono ?_
 rintro e w' ⟨he,P',hi,hg⟩;obtain⟨hfs,hnb⟩:=h.md.fs.chg hg h.md.nb;obtain⟨hch,hnc⟩:=h.ch.chg hg h.nc;exact⟨he,P',⟨⟨hi,h.md.wi,hpl,h.md.st,hfs,hnb⟩,hch,hnc,h.bb,fun h10=>let ⟨bg,hbg⟩:=h.far h10;⟨bg,hbg.chg hg⟩,h.cg.trans hg⟩,hg⟩
theorem Chs.full(h:Chs w0 P0 w P d p X S N O kk F bf n i bc fv)(h1:1<=n)(h48:n<48)(g:Int){a:Nat}(ha:a<139)(hr:62*(kk:Int)-42<=(cntU O (64*kk):Int)):
 Calls Tryz.prog 112 #[.pointer (some ⟨bc,0,none⟩),.int .i64 g,.int .i64 (atX a)] w fun e w'=>e=.returned (.tuple #[.int .i64 0,.int .i64 13])/\Below w.heap.size w w':=by
 have hbd:=atX_bd ha;obtain⟨A,hA⟩:∃ A:Nat,atX a=(A:Int):=⟨(atX a).toNat,by omega⟩;have hfo:=frmO_at h1 h48 ha;rw[hA] at hbd hfo |-
 exact chTake_full (R:=fun _=>True) h.ch h48 (a:=A) (by omega) fun V hV=>fsTake_full (h.md.inv.low hV) h.md.wi h.md.pl.has h.md.pl.ok (h.md.fs.low hV) h.md.pl.tab h.md.st g (by omega) hbd hfo (by omega) (by omega) hr
theorem Chs.low(h:Chs w0 P0 w P d p X S N O kk F bf n i bc fv){w':World}(hb:Below w.heap.size w w'):Chs w0 P0 w' P d p X S N O kk F bf n i bc fv:=
 ⟨h.md.low hb,h.ch.low hb,h.nc,h.bb,fun h10=>let ⟨bg,hbg⟩:=h.far h10;⟨bg,hbg.low hb⟩,h.cg.trans (Chg.of_below hb)⟩
theorem Chs.near(h:Chs w0 P0 w P d p X S N O kk F bf n i bc fv)(h1:1<=n)(h48:n<48)(hp:X.put.length<37){b:Nat}(hb:b<10){v:Int}(hfx:frmI ((N.getD n []).set (3+b) v)=true)(hpl:Pl noEx (nodG X.call S N n ((N.getD n []).set (3+b) v)) S (N.set n ((N.getD n []).set (3+b) v)) O kk F):
 Calls Tryz.prog 114 #[.pointer (some ⟨bc,0,none⟩),.int .i64 b,.int .i64 v] w fun e w'=>e=.returned (.int .i64 0)/\∃ P',Chs w0 P0 w' P' d p (putI X S N n ((N.getD n []).set (3+b) v)) S (N.set n ((N.getD n []).set (3+b) v)) O kk F bf n i bc fv:=by
 refine(chSet_near h.md.inv h.md.wi hp h.md.fs h.md.pl.tab h1 h48 h.ch h.nc hb hfx).mono ?_;rintro e w' ⟨he,P',hi,hch,hg,hnc⟩;obtain⟨hfs,hnb⟩:=h.md.fs.chg hg (fun hx=>hx.elim h.md.nb fun e=>h.md.fs.ne_ch h.ch e);have hy:(N.set n ((N.getD n []).set (3+b) v)).getD n []=(N.getD n []).set (3+b) v:=by rw[Zcm (by rw[h.md.pl.tab.n.len];exact h48),if_pos rfl]
 refine⟨he,P',⟨hi,h.md.wi,hpl,h.md.st,hfs,fun e=>hnb (.inl e)⟩,by rw[hy];exact hch,hnc,h.bb,fun h10=>?_,Chg.inner2 h.cg hg fun k hk=>by rw[hk];exact h.bb⟩;obtain⟨bg,f1,f2,f3,f4,f5,f6⟩:=h.far h10;have:=hg.keep bg (Array.getElem?_eq_some_iff.1 f6).1 fun hx=>hx.elim f4 f3
 exact⟨bg,f1,f2,f3,fun e=>this.2 (.inl e),f5,this.1.trans f6⟩
theorem Chs.setFar(h:Chs w0 P0 w P d p X S N O kk F bf n i bc fv)(h1:1<=n)(h48:n<48)(hp:X.put.length<37){b:Nat}(h10:10<=b)(hb:b<138)(hfar:∃ bg,FarA w w0.heap.size bc P fv (F n) bg){v:Int}(hL:locS ((F n).set (b-10) v)=true){m:Nat}(hm:num (N.getD n []) 13=(m:Int))(hm0:m≠0)
 (hpl:Pl noEx (X.call.set m (mapS ((F n).set (b-10) v))) S N O kk (setF F n ((F n).set (b-10) v))):
 Calls Tryz.prog 114 #[.pointer (some ⟨bc,0,none⟩),.int .i64 b,.int .i64 v] w fun e w'=>e=.returned (.int .i64 0)/\∃ P',Chs w0 P0 w' P' d p (putB X m (mapS ((F n).set (b-10) v))) S N O kk (setF F n ((F n).set (b-10) v)) bf n i bc fv:=by
 have ho:=hpl.fi.map h1 h48 id (by rw[hm];omega);rw[hm] at ho;have h12:=hpl.ok.k12;have hob:=ho.1;have hoj:=ho.outJ h12;rw[Int.toNat_natCast] at hoj;obtain⟨bg,hbg⟩:=hfar;obtain⟨f1,f2,f3,f4,f5,f6⟩:=hbg;refine(chSet_far h.md.inv h.md.wi hp h.md.fs h.ch h.nc ⟨f1,f2,f3,f4,f5,f6⟩ h10 hb hL hm (by rw[h.md.isl];omega) (by omega) hoj).mono ?_;rintro e w' ⟨he,P',hi,hch,hfa,hg,hnc⟩;obtain⟨hfs,hnb⟩:=h.md.fs.chg hg (fun hx=>hx.elim h.md.nb fun e=>h.md.fs.ne_io f6 f1 e);exact⟨he,P',⟨hi,h.md.wi,hpl,h.md.st,hfs,fun e=>hnb (.inl e)⟩,hch,hnc,h.bb,fun _=>⟨bg,by rw[Zja];exact hfa⟩,Chg.inner2 h.cg hg fun k hk=>by rw[hk];exact f2⟩
theorem Chs.addMap(h:Chs w0 P0 w P d p X S N O kk F bf n i bc fv)(h1:1<=n)(h48:n<48)(hk:Zbf N n≠0)(h0:num (N.getD n []) 13=0){Q:List Int}(hq:PutS X Q)(hQ:Q.length<=35)(hB:∀ g,g<kk->(dscN g:Int)∈Q/\(dscN g:Int)+1∈Q)(hr:(cntU O (64*kk):Int)<62*(kk:Int)-42):
 ∃ m:Nat,FreeB O kk m/\Zit O (64*kk) (Zis (64*kk) 0)=m/\PutS (takX X O m (n,65535)) (Q ++ [(m:Int)])/\
   Calls Tryz.prog 111 #[.pointer (some ⟨bc,0,none⟩)] w fun e w'=>e=.returned (.int .i64 0)/\∃ P',Chs w0 P0 w' P' d p (putI (takX X O m (n,65535)) S N n ((N.getD n []).set 13 m)) S (N.set n ((N.getD n []).set 13 m)) (O.set m (n,65535)) kk F bf n i bc fv:=by
 obtain⟨m,hm,hms,p2,hT⟩:=h.take h1 h48 0 (a:=138) (by decide) hq hQ hB hr;have e138:atX 138=65535:=rfl;rw[e138] at p2 hT;obtain⟨hst,hfx⟩:=h.md.pl.addMap h1 h48 hk h0 hm;refine⟨m,hm,hms,p2,?_⟩;have hp2:=p2.le;rw[List.length_append,List.length_singleton] at hp2;have htab:=(h.md.pl.take hm.fr hm.fx hm.lt (i:=(n:Int)) (j:=65535) (by omega) (by omega) (frmO_at h1 h48 (i:=138) (by omega)) (by omega) (by omega)).1.tab;refine(chAddMap_yes (X:=takX X O m (n,65535)) (hT.mono fun e w' ⟨he,P',hx,hg⟩=>⟨he,P',hx.md.inv,hg⟩) h.md.wi (by omega) h.md.fs h.md.nb htab h1 h48 h.ch h.nc hfx).mono ?_;rintro e w' ⟨he,P',hi,hch,hg,hnc⟩;obtain⟨hfs,hnb⟩:=h.md.fs.chg hg (fun hx=>hx.elim h.md.nb fun e=>h.md.fs.ne_ch h.ch e);have hy:(N.set n ((N.getD n []).set 13 (m:Int))).getD n []=(N.getD n []).set 13 (m:Int):=by rw[Zcm (by rw[h.md.pl.tab.n.len];exact h48),if_pos rfl]
 refine⟨he,P',⟨hi,h.md.wi,hst.pl,h.md.st,hfs,fun e=>hnb (.inl e)⟩,by rw[hy];exact hch,hnc,h.bb,fun h10=>?_,Chg.inner2 h.cg hg fun k hk=>by rw[hk];exact h.bb⟩;obtain⟨bg,f1,f2,f3,f4,f5,f6⟩:=h.far h10;have:=hg.keep bg (Array.getElem?_eq_some_iff.1 f6).1 fun hx=>hx.elim f4 f3
 exact⟨bg,f1,f2,f3,fun e=>this.2 (.inl e),f5,this.1.trans f6⟩
end
structure MapR (X:XSt) (S:List Int) (N:List (List Int)) (O:List (Int × Int)) (kk:Nat) (F:Nat->List Int) (n i:Nat) (Q:List Int) (v:Int) (X':XSt) (N':List (List Int)) (O':List (Int × Int)) (F':Nat->List Int):Prop where
 st:Stp S kk X.call N O F n X'.call N' O' F'
 v0:0<v
 loc:∀ b,b<138->locX (N'.getD n []) (F' n) b=if b=i then v else locX (N.getD n []) (F n) b
 mp:num (N'.getD n []) 13≠0 ↔ (num (N.getD n []) 13≠0\/10<=i)
 zer:X'.call.getD v.toNat []=z256
 on:Onw X X'
 pt:∃ R,R.length<=2/\(i<10->R=[v])/\PutS X' (Q ++ R)
 near:i<10->O'=O.set v.toNat (n,i)/\v=Zit O (64*kk) (Zis (64*kk) (Zgz (N.getD n []) (F n) i))
 pw:∃ R,R.length<=2/\v∈R/\PutS X' (Q ++ R)/\(num (N'.getD n []) 13≠0->num (N'.getD n []) 13∈Q ++ R)
def needM(mp:Int)(i:Nat):Nat:=if 10<=i/\mp=0 then 2 else 1
section
variable {w:World}{P:Nat->Prop}{d p:Value}{X:XSt}{S:List Int}{N:List (List Int)}{O:List (Int × Int)}{kk:Nat}{F:Nat->List Int}{bf n i:Nat}{Q:List Int}
theorem findF(hO:OOk O kk)(g:Int)(hr:(cntU O (64*kk):Int)<62*(kk:Int)-42):∃ f:Nat,FreeB O kk f/\Zit O (64*kk) (Zis (64*kk) g)=f:=by
 obtain⟨f,f1,f2,f3,f4⟩:=find_free hO (m:=kk) (g:=Zis (64*kk) g) hO.k1 (Nat.le_refl _) (by unfold Zis;have:=hO.k1;split <;> omega) hr;exact⟨f,⟨f3,f4,f1⟩,f2⟩
theorem PutS.last{Q R:List Int}(h:PutS X (Q ++ R)){X':XSt}{a:Int}(ha:a∈Q)(e:X'.put=addS X.put a):PutS X' (Q ++ R):=h.add (List.mem_append_left _ ha) e
theorem fmMap_near(h:Fmd w P d p X S N O kk F bf)(h1:1<=n)(h48:n<48)(hk:Zbf N n≠0)(hi:i<10)(h0:locX (N.getD n []) (F n) i=0)(hq:PutS X Q)(hQ:Q.length<=34)(hB:Base Q S kk n (num (N.getD n []) 13))(hr:(cntU O (64*kk):Int)<62*(kk:Int)-42):
 Calls Tryz.prog 66 #[.pointer (some ⟨bf,0,none⟩),.int .i64 n,.int .i64 i] w fun e w'=>∃ v P' X' N' O' F',e=.returned (.tuple #[.int .i64 v,.int .i64 0])/\Fmd w' P' d p X' S N' O' kk F' bf/\MapR X S N O kk F n i Q v X' N' O' F'/\Chg P P' w w':=by
 have hat:atX i=(i:Int):=by unfold atX;rw[if_neg (by omega)]
 obtain⟨f,hf,hfs⟩:=findF h.pl.ok (Zgz (N.getD n []) (F n) i) hr;obtain⟨hst,hfx,hz⟩:=h.pl.mapNear h1 h48 hk hi h0 hf;have hn:n<N.length:=by rw[h.pl.tab.n.len];exact h48
 have hx:=h.pl.tab.n.get h48;have hf0:=(Zeu hf.fx).1
 refine(fmMap_go (mp:=num (N.getD n []) 13) (g:=Zgz (N.getD n []) (F n) i) (E:=0) (v:=(f:Int)) (R0:=fun bc V=>∃ fv,Chs w P V P d p X S N O kk F bf n i bc fv)
  (R2:=fun bc V=>PutS (takX X O f (n,i)) (Q ++ [(f:Int)])/\∃ fv P2,Chs w P V P2 d p (takX X O f (n,i)) S N (O.set f (n,i)) kk F bf n i bc fv)
  (R3:=fun w'=>PutS (takX X O f (n,i)) (Q ++ [(f:Int)])/\∃ bc fv P3,Chs w P w' P3 d p (putI (takX X O f (n,i)) S N n ((N.getD n []).set (3+i) f)) S (N.set n ((N.getD n []).set (3+i) f)) (O.set f (n,i)) kk F bf n i bc fv)
  (by omega) (Chs.open h h1 h48 hk (by omega)) ?_ ?_ ?_ ?_ ?_).mono ?_
 . rintro bc V ⟨fv,hc⟩;rw[<- h0];exact(hc.at (by omega))
 . rintro bc V ⟨fv,hc⟩;exact hc.ch.cm
 . rintro bc V ⟨fv,hc⟩;exact hc.goal h48 (by omega)
 . rintro bc V ⟨fv,hc⟩
   obtain⟨f',hf',hfs',p2,hT⟩:=hc.take h1 h48 (Zgz (N.getD n []) (F n) i) (a:=i) (by omega) hq (by omega) hB.g hr;obtain rfl:f'=f:=by omega
   rw[hat] at p2 hT;exact hT.mono fun e w' ⟨he,P',hc',_⟩=>⟨he,p2,fv,P',hc'⟩
 . rintro _ bc V ⟨p2,fv,P2,hc⟩
   have:=p2.le;rw[List.length_append,List.length_singleton] at this;exact(hc.near h1 h48 (by omega) hi hfx hst.pl).mono fun e w' ⟨he,P',hc'⟩=>⟨he,p2,bc,fv,P',hc'⟩
 . rintro e w' (⟨_,he,p2,bc,fv,P3,hc⟩| ⟨h,_⟩)
   . refine⟨(f:Int),P3,_,_,_,_,he,hc.md,⟨hst,by omega,fun b hb=>?_,?_,by rw[Int.toNat_natCast];exact hz,⟨rfl,rfl⟩,⟨[(f:Int)],by simp,fun _=>rfl,p2.last hB.t rfl⟩,fun _=>⟨by rw[Int.toNat_natCast],hfs.symm⟩,⟨[(f:Int)],by simp,by simp,p2.last hB.t rfl,fun h=>?_⟩⟩,hc.cg⟩
     . rw[Zcm hn,if_pos rfl,Zjz hx hi]
     . rw[Zcm hn,if_pos rfl,Zav (by omega),if_neg (by omega)]
       exact⟨.inl,fun h=>h.elim id fun h=>absurd h (by omega)⟩
     . rw[Zcm hn,if_pos rfl,Zav (by omega),if_neg (by omega)] at h |-
       exact List.mem_append_left _ (hB.m h)
   . exact absurd rfl h
theorem fmMap_far(h:Fmd w P d p X S N O kk F bf)(h1:1<=n)(h48:n<48)(hk:Zbf N n≠0)(h10:10<=i)(hi:i<138)(h0:locX (N.getD n []) (F n) i=0)(hq:PutS X Q)(hQ:Q.length<=34)(hB:Base Q S kk n (num (N.getD n []) 13))(hr:(cntU O (64*kk):Int)<62*(kk:Int)-42)(hm0:num (N.getD n []) 13≠0):
 Calls Tryz.prog 66 #[.pointer (some ⟨bf,0,none⟩),.int .i64 n,.int .i64 i] w fun e w'=>∃ v P' X' N' O' F',e=.returned (.tuple #[.int .i64 v,.int .i64 0])/\Fmd w' P' d p X' S N' O' kk F' bf/\MapR X S N O kk F n i Q v X' N' O' F'/\Chg P P' w w':=by
 have hat:atX i=(i:Int):=by unfold atX;rw[if_neg (by omega)]
 obtain⟨f,hf,hfs⟩:=findF h.pl.ok (Zgz (N.getD n []) (F n) i) hr;have ho:=h.pl.fi.map h1 h48 id hm0;obtain⟨m,hm⟩:∃ m:Nat,num (N.getD n []) 13=(m:Int):=⟨(num (N.getD n []) 13).toNat,by have:=ho.1;omega⟩;have hmz:m≠0:=by omega
 obtain⟨hst,hL,hz⟩:=h.pl.mapFar h1 h48 h10 hi h0 hf hm hmz;have hf0:=(Zeu hf.fx).1;have hmQ:=hB.m hm0;rw[hm] at hmQ
 refine(fmMap_go (mp:=num (N.getD n []) 13) (g:=Zgz (N.getD n []) (F n) i) (E:=0) (v:=(f:Int)) (R0:=fun bc V=>∃ fv,Chs w P V P d p X S N O kk F bf n i bc fv)
  (R2:=fun bc V=>PutS (takX X O f (n,i)) (Q ++ [(f:Int)])/\∃ fv P2,Chs w P V P2 d p (takX X O f (n,i)) S N (O.set f (n,i)) kk F bf n i bc fv)
  (R3:=fun w'=>PutS (takX X O f (n,i)) (Q ++ [(f:Int)])/\∃ bc fv P3,Chs w P w' P3 d p (putB (takX X O f (n,i)) m (mapS ((F n).set (i-10) f))) S N (O.set f (n,i)) kk (setF F n ((F n).set (i-10) f)) bf n i bc fv)
  (fun e=>hm0 e.2) (Chs.open h h1 h48 hk hi) ?_ ?_ ?_ ?_ ?_).mono ?_
 . rintro bc V ⟨fv,hc⟩;rw[<- h0];exact(hc.at hi)
 . rintro bc V ⟨fv,hc⟩;exact hc.ch.cm
 . rintro bc V ⟨fv,hc⟩;exact hc.goal h48 hi
 . rintro bc V ⟨fv,hc⟩
   obtain⟨f',hf',hfs',p2,hT⟩:=hc.take h1 h48 (Zgz (N.getD n []) (F n) i) (a:=i) (by omega) hq (by omega) hB.g hr;obtain rfl:f'=f:=by omega
   rw[hat] at p2 hT;exact hT.mono fun e w' ⟨he,P',hc',_⟩=>⟨he,p2,fv,P',hc'⟩
 . rintro _ bc V ⟨p2,fv,P2,hc⟩
   have:=p2.le;rw[List.length_append,List.length_singleton] at this;exact(hc.setFar h1 h48 (by omega) h10 hi (hc.far h10) hL hm hmz hst.pl).mono fun e w' ⟨he,P',hc'⟩=>⟨he,p2,bc,fv,P',hc'⟩
 . rintro e w' (⟨_,he,p2,bc,fv,P3,hc⟩| ⟨h,_⟩)
   . refine⟨(f:Int),P3,_,_,_,_,he,hc.md,⟨hst,by omega,fun b hb=>?_,⟨.inl,fun _=>hm0⟩,by rw[Int.toNat_natCast];exact hz,⟨rfl,rfl⟩,⟨[(f:Int)],by simp,fun _=>rfl,p2.last hmQ rfl⟩,fun h=>absurd h (by omega),⟨[(f:Int)],by simp,by simp,p2.last hmQ rfl,fun _=>by rw[hm];exact List.mem_append_left _ hmQ⟩⟩,hc.cg⟩
     rw[Zja,Zkb (h.pl.fi.fl n).1 h10 hi]
   . exact absurd rfl h
theorem Chs.mapFar{w0:World}{P0:Nat->Prop}{bc:Nat}{fv:Value}{f m:Nat}(hc:Chs w0 P0 w P d p (takX X O f (n,i)) S N (O.set f (n,i)) kk F bf n i bc fv)(h1:1<=n)(h48:n<48)(h10:10<=i)(hi:i<138)(hp:(takX X O f (n,i)).put.length<37)(hL:locS ((F n).set (i-10) f)=true)(hm:num (N.getD n []) 13=(m:Int))(hmz:m≠0)
 (hpl:Pl noEx ((takG X.call O f (n,i)).set m (mapS ((F n).set (i-10) f))) S N (O.set f (n,i)) kk (setF F n ((F n).set (i-10) f))):
 Calls Tryz.prog 114 #[.pointer (some ⟨bc,0,none⟩),.int .i64 i,.int .i64 f] w fun e w'=>e=.returned (.int .i64 0)/\∃ P',Chs w0 P0 w' P' d p (putB (takX X O f (n,i)) m (mapS ((F n).set (i-10) f))) S N (O.set f (n,i)) kk (setF F n ((F n).set (i-10) f)) bf n i bc fv:=
 hc.setFar h1 h48 hp h10 hi (hc.far h10) hL hm hmz hpl
theorem fmMap_both(h:Fmd w P d p X S N O kk F bf)(h1:1<=n)(h48:n<48)(hk:Zbf N n≠0)(h10:10<=i)(hi:i<138)(h0:locX (N.getD n []) (F n) i=0)(hq:PutS X Q)(hQ:Q.length<=34)(hB:Base Q S kk n (num (N.getD n []) 13))(hr:(cntU O (64*kk):Int)+1<62*(kk:Int)-42)(hm0:num (N.getD n []) 13=0):
 Calls Tryz.prog 66 #[.pointer (some ⟨bf,0,none⟩),.int .i64 n,.int .i64 i] w fun e w'=>∃ v P' X' N' O' F',e=.returned (.tuple #[.int .i64 v,.int .i64 0])/\Fmd w' P' d p X' S N' O' kk F' bf/\MapR X S N O kk F n i Q v X' N' O' F'/\Chg P P' w w':=by
 have hat:atX i=(i:Int):=by unfold atX;rw[if_neg (by omega)]
 obtain⟨m,hm,hms⟩:=findF h.pl.ok 0 (by omega);obtain⟨hst1,hfx⟩:=h.pl.addMap h1 h48 hk hm0 hm;have hmz:=(Zeu hm.fx).1;have hn:n<N.length:=by rw[h.pl.tab.n.len];exact h48
 have hx:=h.pl.tab.n.get h48;obtain⟨N1,hN1⟩:∃ N1,N1=N.set n ((N.getD n []).set 13 (m:Int)):=⟨_,rfl⟩;obtain⟨X1,hX1⟩:∃ X1,X1=putI (takX X O m (n,65535)) S N n ((N.getD n []).set 13 m):=⟨_,rfl⟩;obtain⟨O1,hO1⟩:∃ O1,O1=O.set m ((n:Int),(65535:Int)):=⟨_,rfl⟩;have hy:N1.getD n []=(N.getD n []).set 13 (m:Int):=by rw[hN1,Zcm hn,if_pos rfl]
 have hst:Stp S kk X.call N O F n X1.call N1 O1 F:=by rw[hX1,hN1,hO1];exact hst1
 have hm13:num (N1.getD n []) 13=(m:Int):=by rw[hy,Zav (by omega),if_pos rfl]
 have hloc1:∀ b,b<138->locX (N1.getD n []) (F n) b=locX (N.getD n []) (F n) b:=fun b hb=>by rw[hy,Zka hx,if_neg (by omega)]
 have hc1:cntU O1 (64*kk)=cntU O (64*kk)+1:=by
  rw[hO1];exact Zkq (by rw[h.pl.ok.len];exact hm.lt) hm.fr hm.fx (by omega) _ hm.lt
 obtain⟨f,hf,hfs⟩:=findF hst.pl.ok (Zgz (N1.getD n []) (F n) i) (by rw[hc1];push_cast;omega);have h01:locX (N1.getD n []) (F n) i=0:=by rw[hloc1 i hi];exact h0
 obtain⟨hst2,hL,hz⟩:=hst.pl.mapFar h1 h48 h10 hi h01 hf hm13 hmz;have hf0:=(Zeu hf.fx).1
 refine(fmMap_add (g:=Zgz (N1.getD n []) (F n) i) (M:=0) (E:=0) (v:=(f:Int)) (R0:=fun bc V=>∃ fv,Chs w P V P d p X S N O kk F bf n i bc fv)
  (R1:=fun bc V=>PutS (takX X O m (n,65535)) (Q ++ [(m:Int)])/\∃ fv P1,Chs w P V P1 d p X1 S N1 O1 kk F bf n i bc fv)
  (R2:=fun bc V=>PutS (takX X1 O1 f (n,i)) (Q ++ [(m:Int)] ++ [(f:Int)])/\∃ fv P2,Chs w P V P2 d p (takX X1 O1 f (n,i)) S N1 (O1.set f (n,i)) kk F bf n i bc fv)
  (R3:=fun w'=>PutS (takX X1 O1 f (n,i)) (Q ++ [(m:Int)] ++ [(f:Int)])/\∃ bc fv P3,Chs w P w' P3 d p (putB (takX X1 O1 f (n,i)) m (mapS ((F n).set (i-10) f))) S N1 (O1.set f (n,i)) kk (setF F n ((F n).set (i-10) f)) bf n i bc fv)
  (by omega) (Chs.open h h1 h48 hk hi) ?_ ?_ ?_ ?_ ?_ ?_).mono ?_
 . rintro bc V ⟨fv,hc⟩;rw[<- h0];exact(hc.at hi)
 . rintro bc V ⟨fv,hc⟩;rw[<- hm0];exact hc.ch.cm
 . rintro bc V ⟨fv,hc⟩
   obtain⟨m',hm',hms',p2,hT⟩:=hc.addMap h1 h48 hk hm0 hq (by omega) hB.g (by omega);obtain rfl:m'=m:=by omega
   rw[<- hX1,<- hN1,<- hO1] at hT;exact hT.mono fun e w' ⟨he,P',hc'⟩=>⟨he,p2,fv,P',hc'⟩
 . rintro _ bc V ⟨p2,fv,P1,hc⟩;exact hc.goal h48 hi
 . rintro _ bc V ⟨p2,fv,P1,hc⟩
   have p3:PutS X1 (Q ++ [(m:Int)]):=p2.last hB.t (by rw[hX1];rfl);obtain⟨f',hf',hfs',p4,hT⟩:=hc.take h1 h48 (Zgz (N1.getD n []) (F n) i) (a:=i) (by omega) p3 (by rw[List.length_append,List.length_singleton];omega) (fun g hg=>⟨List.mem_append_left _ (hB.g g hg).1,List.mem_append_left _ (hB.g g hg).2⟩) (by rw[hc1];push_cast;omega);obtain rfl:f'=f:=by omega
   rw[hat] at p4 hT;exact hT.mono fun e w' ⟨he,P',hc',_⟩=>⟨he,p4,fv,P',hc'⟩
 . rintro _ _ bc V ⟨p2,fv,P2,hc⟩
   have:=p2.le;rw[List.length_append,List.length_append,List.length_singleton,List.length_singleton] at this;exact(hc.mapFar h1 h48 h10 hi (by omega) hL hm13 hmz hst2.pl).mono fun e w' ⟨he,P',hc'⟩=>⟨he,p2,bc,fv,P',hc'⟩
 . rintro e w' (⟨h,_⟩| ⟨_,_,he,p2,bc,fv,P3,hc⟩| ⟨_,h,_⟩)
   . exact absurd rfl h
   . have hx1:Onw X X1:=by rw[hX1];exact⟨rfl,rfl⟩
     refine⟨(f:Int),P3,_,_,_,_,he,hc.md,⟨hst.trans hst2,by omega,fun b hb=>?_,?_,by rw[Int.toNat_natCast];exact hz,hx1.trans ⟨rfl,rfl⟩,⟨[(m:Int),(f:Int)],by simp,fun h=>absurd h (by omega),?_⟩,fun h=>absurd h (by omega),⟨[(m:Int),(f:Int)],by simp,by simp,?_,fun _=>by rw[hm13];simp⟩⟩,hc.cg⟩
     . rw[Zja,Zkb (h.pl.fi.fl n).1 h10 hi,hloc1 b hb]
     . rw[hm13];exact⟨fun _=>.inr h10,fun _=>by omega⟩
     . rw[List.append_assoc] at p2
       exact p2.add (List.mem_append_right _ (List.mem_cons_self)) rfl
     . rw[List.append_assoc] at p2
       exact p2.add (List.mem_append_right _ (List.mem_cons_self)) rfl
   . exact absurd rfl h
theorem fmMap_full(h:Fmd w P d p X S N O kk F bf)(h1:1<=n)(h48:n<48)(hk:Zbf N n≠0)(hi:i<138)(h0:locX (N.getD n []) (F n) i=0)(hq:PutS X Q)(hQ:Q.length<=34)(hB:Base Q S kk n (num (N.getD n []) 13))(hr:62*(kk:Int)-42<(cntU O (64*kk):Int)+(needM (num (N.getD n []) 13) i:Int)):
 Calls Tryz.prog 66 #[.pointer (some ⟨bf,0,none⟩),.int .i64 n,.int .i64 i] w fun e w'=>e=.returned (.tuple #[.int .i64 0,.int .i64 13])/\∃ P' X' N' O',Fmd w' P' d p X' S N' O' kk F bf/\Onw X X'/\Chg P P' w w':=by
 have hat:atX i=(i:Int):=by unfold atX;rw[if_neg (by omega)]
 by_cases hc:10<=i/\num (N.getD n []) 13=0
 . obtain⟨h10,hm0⟩:=hc
   have e2:needM (num (N.getD n []) 13) i=2:=if_pos ⟨h10,hm0⟩;rw[e2] at hr;by_cases hr1:(cntU O (64*kk):Int)<62*(kk:Int)-42
   . obtain⟨m,hm,hms⟩:=findF h.pl.ok 0 hr1
     have hn:n<N.length:=by rw[h.pl.tab.n.len];exact h48
     have hx:=h.pl.tab.n.get h48;have hmz:=(Zeu hm.fx).1;have hc1:cntU (O.set m ((n:Int),(65535:Int))) (64*kk)=cntU O (64*kk)+1:=Zkq (by rw[h.pl.ok.len];exact hm.lt) hm.fr hm.fx (by omega) _ hm.lt;obtain⟨N1,hN1⟩:∃ N1,N1=N.set n ((N.getD n []).set 13 (m:Int)):=⟨_,rfl⟩;obtain⟨X1,hX1⟩:∃ X1,X1=putI (takX X O m (n,65535)) S N n ((N.getD n []).set 13 m):=⟨_,rfl⟩;obtain⟨O1,hO1⟩:∃ O1,O1=O.set m ((n:Int),(65535:Int)):=⟨_,rfl⟩;rw[<- hO1] at hc1
     refine(fmMap_add (g:=Zgz (N1.getD n []) (F n) i) (M:=0) (E:=13) (v:=0) (R0:=fun bc V=>∃ fv,Chs w P V P d p X S N O kk F bf n i bc fv)
      (R1:=fun bc V=>∃ fv P1,Chs w P V P1 d p X1 S N1 O1 kk F bf n i bc fv)
      (R2:=fun bc V=>∃ fv P2,Chs w P V P2 d p X1 S N1 O1 kk F bf n i bc fv) (R3:=fun _=>False)
      (by omega) (Chs.open h h1 h48 hk hi) ?_ ?_ ?_ ?_ ?_ ?_).mono ?_
     . rintro bc V ⟨fv,hc⟩;rw[<- h0];exact(hc.at hi)
     . rintro bc V ⟨fv,hc⟩;rw[<- hm0];exact hc.ch.cm
     . rintro bc V ⟨fv,hc⟩
       obtain⟨m',hm',hms',p2,hT⟩:=hc.addMap h1 h48 hk hm0 hq (by omega) hB.g hr1;obtain rfl:m'=m:=by omega
       rw[<- hX1,<- hN1,<- hO1] at hT;exact hT.mono fun e w' ⟨he,P',hc'⟩=>⟨he,fv,P',hc'⟩
     . rintro _ bc V ⟨fv,P1,hc⟩;exact hc.goal h48 hi
     . rintro _ bc V ⟨fv,P1,hc⟩
       have:=hc.full h1 h48 (Zgz (N1.getD n []) (F n) i) (a:=i) (by omega) (by rw[hc1];push_cast;omega);rw[hat] at this;exact this.mono fun e w' ⟨he,hb⟩=>⟨he,fv,P1,hc.low hb⟩
     . intro _ h;cases h
     . rintro e w' (⟨h,_⟩| ⟨_,_,_,h⟩| ⟨_,_,he,bc,fv,P2,hc⟩)
       . exact absurd rfl h
       . exact h.elim
       . exact⟨he,P2,X1,N1,O1,hc.md,by rw[hX1];exact⟨rfl,rfl⟩,hc.cg⟩
   . refine(fmMap_add (g:=0) (M:=13) (E:=13) (v:=0) (R0:=fun bc V=>∃ fv,Chs w P V P d p X S N O kk F bf n i bc fv)
      (R1:=fun bc V=>∃ fv,Chs w P V P d p X S N O kk F bf n i bc fv)
      (R2:=fun bc V=>False) (R3:=fun _=>False)
      (by omega) (Chs.open h h1 h48 hk hi) ?_ ?_ ?_ ?_ ?_ ?_).mono ?_
     . rintro bc V ⟨fv,hc⟩;rw[<- h0];exact(hc.at hi)
     . rintro bc V ⟨fv,hc⟩;rw[<- hm0];exact hc.ch.cm
     . rintro bc V ⟨fv,hc⟩
       have:=hc.full h1 h48 0 (a:=138) (by omega) (by omega);rw[show atX 138=65535 from rfl] at this;exact(chAddMap_full this).mono fun e w' ⟨he,hb⟩=>⟨he,fv,hc.low hb⟩
     . intro h;cases h
     . intro h;cases h
     . intro h;cases h
     . rintro e w' (⟨_,he,bc,fv,hc⟩| ⟨h,_⟩| ⟨h,_⟩)
       . exact⟨he,P,X,N,O,hc.md,Onw.refl X,hc.cg⟩
       . cases h
       . cases h
 . have e1:needM (num (N.getD n []) 13) i=1:=if_neg hc
   rw[e1] at hr
   refine(fmMap_go (mp:=num (N.getD n []) 13) (g:=Zgz (N.getD n []) (F n) i) (E:=13) (v:=0) (R0:=fun bc V=>∃ fv,Chs w P V P d p X S N O kk F bf n i bc fv)
    (R2:=fun bc V=>∃ fv,Chs w P V P d p X S N O kk F bf n i bc fv) (R3:=fun _=>False)
    (fun e=>hc ⟨by omega,e.2⟩) (Chs.open h h1 h48 hk hi) ?_ ?_ ?_ ?_ ?_).mono ?_
   . rintro bc V ⟨fv,hc⟩;rw[<- h0];exact(hc.at hi)
   . rintro bc V ⟨fv,hc⟩;exact hc.ch.cm
   . rintro bc V ⟨fv,hc⟩;exact hc.goal h48 hi
   . rintro bc V ⟨fv,hc⟩
     have:=hc.full h1 h48 (Zgz (N.getD n []) (F n) i) (a:=i) (by omega) (by omega);rw[hat] at this;exact this.mono fun e w' ⟨he,hb⟩=>⟨he,fv,hc.low hb⟩
   . intro h;cases h
   . rintro e w' (⟨h,_⟩| ⟨_,he,bc,fv,hc⟩)
     . cases h
     . exact⟨he,P,X,N,O,hc.md,Onw.refl X,hc.cg⟩
theorem fmMap_new(h:Fmd w P d p X S N O kk F bf)(h1:1<=n)(h48:n<48)(hk:Zbf N n≠0)(hi:i<138)(h0:locX (N.getD n []) (F n) i=0)(hq:PutS X Q)(hQ:Q.length<=34)(hB:Base Q S kk n (num (N.getD n []) 13))(hr:(cntU O (64*kk):Int)+(needM (num (N.getD n []) 13) i:Int)<=62*(kk:Int)-42):
 Calls Tryz.prog 66 #[.pointer (some ⟨bf,0,none⟩),.int .i64 n,.int .i64 i] w fun e w'=>∃ v P' X' N' O' F',e=.returned (.tuple #[.int .i64 v,.int .i64 0])/\Fmd w' P' d p X' S N' O' kk F' bf/\MapR X S N O kk F n i Q v X' N' O' F'/\Chg P P' w w':=by
 unfold needM at hr;by_cases h10:i<10
 . rw[if_neg (by omega)] at hr
   exact fmMap_near h h1 h48 hk h10 h0 hq hQ hB (by omega)
 . by_cases hm:num (N.getD n []) 13=0
   . rw[if_pos ⟨by omega,hm⟩] at hr
     exact fmMap_both h h1 h48 hk (by omega) hi h0 hq hQ hB (by omega) hm
   . rw[if_neg (fun e=>hm e.2)] at hr
     exact fmMap_far h h1 h48 hk (by omega) hi h0 hq hQ hB (by omega) hm
theorem fmMap_old(h:Fmd w P d p X S N O kk F bf)(h1:1<=n)(h48:n<48)(hk:Zbf N n≠0)(hi:i<138)(h0:locX (N.getD n []) (F n) i≠0):
 Calls Tryz.prog 66 #[.pointer (some ⟨bf,0,none⟩),.int .i64 n,.int .i64 i] w fun e w'=>e=.returned (.tuple #[.int .i64 (locX (N.getD n []) (F n) i),.int .i64 0])/\Fmd w' P d p X S N O kk F bf/\Chg P P w w':=by
 refine(fmMap_was h0 (R0:=fun bc V=>∃ fv,Chs w P V P d p X S N O kk F bf n i bc fv) (Chs.open h h1 h48 hk hi) ?_).mono ?_
 . rintro bc V ⟨fv,hc⟩;exact hc.at hi
 . rintro e w' ⟨he,bc,fv,hc⟩;exact⟨he,hc.md,hc.cg⟩
end
structure Cst (S:List Int) (kk:Nat) (G N:List (List Int)) (O:List (Int × Int)) (F:Nat->List Int) (n:Nat) (G' N':List (List Int)) (O':List (Int × Int)) (F':Nat->List Int):Prop where
 pl:Pl noEx G' S N' O' kk F'
 hd:∀ j,j<3->num (N'.getD n []) j=num (N.getD n []) j
 oth:∀ m,m≠n->N'.getD m []=N.getD m []/\F' m=F m
 cnt:cntU O' (64*kk)+Zjo (N.getD n []) (F n)=cntU O (64*kk)+Zjo (N'.getD n []) (F' n)
 dat:DataK O O' G G'
 les:Less O O'
section
variable {G:List (List Int)}{S:List Int}{N:List (List Int)}{O:List (Int × Int)}{kk:Nat}{F:Nat->List Int}
theorem Cst.refl(h:Pl noEx G S N O kk F)(n:Nat):Cst S kk G N O F n G N O F:=⟨h,fun _ _=>rfl,fun _ _=>⟨rfl,rfl⟩,rfl,DataK.refl _ _,Less.refl _⟩
theorem Cst.trans{n:Nat}{G1 N1 G2 N2:List (List Int)}{O1 O2:List (Int × Int)}{F1 F2:Nat->List Int}(h:Cst S kk G N O F n G1 N1 O1 F1)(k:Cst S kk G1 N1 O1 F1 n G2 N2 O2 F2):Cst S kk G N O F n G2 N2 O2 F2:=
 ⟨k.pl,fun j hj=>(k.hd j hj).trans (h.hd j hj),fun m hm=>⟨(k.oth m hm).1.trans (h.oth m hm).1,(k.oth m hm).2.trans (h.oth m hm).2⟩,by have:=h.cnt;have:=k.cnt;omega,h.dat.less k.dat k.les,h.les.trans k.les⟩
theorem Zky{x y F F':List Int}{i:Nat}(hi:i<139)(h0:locX x F i≠0)(h:∀ b,b<139->locX y F' b=if b=i then 0 else locX x F b):Zjo x F=Zjo y F'+1:=
 Zif (by rw[h i hi,if_pos rfl]) h0 139 hi fun j hj hne=>by rw[h j hj,if_neg hne]
theorem Pl.dropNear(h:Pl noEx G S N O kk F){n i f:Nat}(h1:1<=n)(h48:n<48)(hk:Zbf N n≠0)(hi:i<10)(hl:locX (N.getD n []) (F n) i=(f:Int))(h0:f≠0):
 Cst S kk G N O F n (nodG (givG G O f) S N n ((N.getD n []).set (3+i) 0)) (N.set n ((N.getD n []).set (3+i) 0)) (O.set f (0,0)) F/\frmI ((N.getD n []).set (3+i) 0)=true:=by
 have hx:=h.tab.n.get h48;have hfx:=h.tab.n.frm n h48;obtain⟨t1,t2,t3,t4,t5,t6,t7⟩:=h.give h1 h48 (i:=i) (by omega) hl h0;have hfy:=frmI_loc hx hfx hk (a:=3+i) (by omega) (by omega) (v:=(0:Int)) (by omega);have hloc:=fun b=>Zjz (F:=F n) hx hi (0:Int) b
 have hm:num ((N.getD n []).set (3+i) (0:Int)) 13=num (N.getD n []) 13:=by rw[Zav (by omega),if_neg (by omega)]
 obtain⟨s1,s2⟩:=t1.node h1 h48 (y:=(N.getD n []).set (3+i) (0:Int)) (by rw[List.length_set];exact hx) hfy (fun a b e=>e.1)
  (by rw[hm];exact h.fi.m0 n h1 h48) (by rw[hm];exact t1.fi.m1 n h1 h48) (fun b hb hz=>by
    rw[hloc] at hz |-
    split
    . next e=>rw[if_pos e] at hz;exact absurd rfl hz
    . next e=>rw[if_neg e] at hz;exact t1.fi.ow n b h1 h48 hb (fun h=>e h.2) hz)
 have hn:n<N.length:=by rw[h.tab.n.len];exact h48
 refine⟨⟨s1,fun j hj=>?_,fun m hm=>⟨Zaf _ _ _ hm,rfl⟩,?_,t6.less s2 (Less.refl _),t7⟩,hfy⟩
 . rw[Zcm hn,if_pos rfl,Zav (by omega),if_neg (by omega)]
 . rw[Zcm hn,if_pos rfl,t5,Zky (i:=i) (by omega) (by rw[hl];omega) fun b _=>hloc b];omega
theorem Pl.dropFar(h:Pl noEx G S N O kk F){n i f m:Nat}(h1:1<=n)(h48:n<48)(h10:10<=i)(hi:i<138)(hl:locX (N.getD n []) (F n) i=(f:Int))(h0:f≠0)(hm:num (N.getD n []) 13=(m:Int))(hm0:m≠0):
 Cst S kk G N O F n ((givG G O f).set m (mapS ((F n).set (i-10) 0))) N (O.set f (0,0)) (setF F n ((F n).set (i-10) 0))/\locS ((F n).set (i-10) 0)=true:=by
 obtain⟨t1,t2,t3,t4,t5,t6,t7⟩:=h.give h1 h48 (i:=i) (by omega) hl h0;have hF:=h.fi.fl n;have hloc:=fun b=>Zkb (x:=N.getD n []) hF.1 h10 hi (0:Int) b
 have hL:=locS_set hF.2 (i-10) (v:=(0:Int)) (by omega);obtain⟨s1,s2⟩:=t1.far h1 h48 hm hm0 (fun e=>by have:=e.2;omega) (L:=(F n).set (i-10) (0:Int)) (by rw[List.length_set];exact hF.1) hL (fun a b e=>e.1) (fun b hb10 hb hz=>by
  have e:num ((F n).set (i-10) (0:Int)) (b-10)=locX (N.getD n []) ((F n).set (i-10) (0:Int)) b:=by unfold locX;rw[if_neg (by omega),if_neg (by omega)]
  rw[e,hloc] at hz |-
  split
  . next e=>rw[if_pos e] at hz;exact absurd rfl hz
  . next e=>rw[if_neg e] at hz;exact t1.fi.ow n b h1 h48 (by omega) (fun h=>e h.2) hz) (fun b hb e=>by have:=e.2;omega)
 refine⟨⟨s1,fun j hj=>rfl,fun a ha=>⟨rfl,setF_ne F ha _⟩,?_,t6.less s2 (Less.refl _),t7⟩,hL⟩;rw[Zja,t5,Zky (i:=i) (by omega) (by rw[hl];omega) fun b _=>hloc b];omega
theorem anyN_zero{F:List Int}(hF:F.length=128)(h:anyN F=false):F=List.replicate 128 0:=by
 apply List.ext_getElem (by rw[hF,List.length_replicate]);intro i h1 h2;have:=anyN_no.1 h i h1;rw[List.getElem_replicate]
 simpa [List.getD_eq_getElem?_getD,h1] using this
theorem Pl.dropMap(h:Pl noEx G S N O kk F){n f:Nat}(h1:1<=n)(h48:n<48)(hk:Zbf N n≠0)(hl:num (N.getD n []) 13=(f:Int))(h0:f≠0)(hz:anyN (F n)=false):
 Cst S kk G N O F n (nodG (givG G O f) S N n ((N.getD n []).set 13 0)) (N.set n ((N.getD n []).set 13 0)) (O.set f (0,0)) F/\frmI ((N.getD n []).set 13 0)=true:=by
 have hx:=h.tab.n.get h48;have hfx:=h.tab.n.frm n h48;obtain⟨t1,t2,t3,t4,t5,t6,t7⟩:=h.give h1 h48 (i:=138) (by omega) (f:=f) hl h0;have hfy:=frmI_loc hx hfx hk (a:=13) (by omega) (by omega) (v:=(0:Int)) (by omega);have hloc:=fun b=>Zka (F:=F n) hx (0:Int) b
 have hm:num ((N.getD n []).set 13 (0:Int)) 13=0:=by rw[Zav (by omega),if_pos rfl]
 obtain⟨s1,s2⟩:=t1.node h1 h48 (y:=(N.getD n []).set 13 (0:Int)) (by rw[List.length_set];exact hx) hfy (fun a b e=>e.1)
  (fun _=>anyN_zero (h.fi.fl n).1 hz) (by rw[hm];exact fun h=>absurd rfl h) (fun b hb hz=>by
    rw[hloc] at hz |-
    split
    . next e=>rw[if_pos e] at hz;exact absurd rfl hz
    . next e=>rw[if_neg e] at hz;exact t1.fi.ow n b h1 h48 hb (fun h=>e h.2) hz)
 have hn:n<N.length:=by rw[h.tab.n.len];exact h48
 refine⟨⟨s1,fun j hj=>?_,fun m hm=>⟨Zaf _ _ _ hm,rfl⟩,?_,t6.less s2 (Less.refl _),t7⟩,hfy⟩
 . rw[Zcm hn,if_pos rfl,Zav (by omega),if_neg (by omega)]
 . rw[Zcm hn,if_pos rfl,t5,Zky (i:=138) (by omega) (by show num (N.getD n []) 13≠0;rw[hl];omega) fun b _=>hloc b];omega
end
end Go.Proofs.YtedabomlfcghoaaGreat
