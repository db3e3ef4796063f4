/- What the law rests on. -/
import Derived.Test.YtfpdajplfmakhaaGreatDoorQC13
open Go.Value renaming int->Ac,tuple->AH,bool->AP
open Go.IntKind renaming i64->Ad
open Go.Proofs.Tryz renaming prog->Z
open Option renaming none->H,some->Ag
open Go renaming World->Ai,Value->Ao,Calls->Y
open Go.Ending renaming returned->K
open Go.RowKit renaming Below->J
open Bool renaming true->AE
namespace Go.Proofs.YtfpdajplfmakhaaGreatDoor
set_option maxHeartbeats 12000000
set_option linter.unusedVariables false
set_option maxRecDepth 100000
open Go.RowKit BM
theorem Xy{w:Ai}{v u:Ao}{A B:List ByteArray}(hA:TSl w v A)(hB:TSl w u B)(h:A=B)(hl:A.length<=1000):Y Z 9 #[v,u] w fun e w'=>e=K (AP AE)/\J w.heap.size w w':=by
 subst h;obtain⟨ao,cap,rfl,_,hc⟩:=hA;obtain⟨bo,cbp,rfl,_,hd⟩:=hB;obtain⟨n,hn⟩:=nm A.length;rw[<- hn] at hc hd hl |-
 have HC:=wM hc;have HD:=wM hd;have Xa:(n:Int)<=1000:=by omega
 clear hc hd hn;go_enter Tryz.func9,Tryz.ntmps9;go_wp2;go_loopw [5,13] (fun _ s13 wr=>Hid (J w.heap.size w wr)/\∃ k:Nat,k<=n/\s13=Ac Ad k) (fun _ s13 _=>n-(intOf s13).toNat)
 case atStart=>exact⟨wM (AC _ _),0,AT _,rfl⟩
 case round=>
  obtain⟨HB,k,hk,rfl⟩:=hrel;by_cases hlt:k<n
  . have gH:(k:Int)<(n:Int):=by omega
    obtain⟨b,off,rfl,hbl,hj⟩:=HC.out (by omega);obtain⟨b',off',rfl,hbl',hj'⟩:=HD.out (by omega);obtain⟨t,ht⟩:=nm (A.getD k ⟨#[]⟩);have c1:wr.cell? ⟨b,off+k,H⟩=Ag (.string t):=(by rw[ht];exact(HB.out.cell (p:=⟨b,off+k,H⟩) hbl).trans (hj k hlt));have c2:wr.cell? ⟨b',off'+k,H⟩=Ag (.string t):=(by rw[ht];exact(HB.out.cell (p:=⟨b',off'+k,H⟩) hbl').trans (hj' k hlt));have htt:(t.toList==t.toList)=AE:=(by rw[Da]);clear hj hj' ht HC HD;go_wp2
    go_region
    go_wp2;go_roundw
    case rel=>exact⟨wM (AM HB.out 1),k+1,by omega,by go_num⟩
    case measure=>simp[intOf];omega
  . go_wp2
    go_ret;exact⟨rfl,HB.out⟩
theorem Xq(s:ByteArray):∃ (O:List ByteArray) (er:Int),O.length<=20/\(∀ V,Y Z 7 #[.string s] V fun e w'=>∃ v,e=K (AH #[v,Ac Ad er])/\TSl w' v O/\J V.heap.size V w')/\
 ∀ V,Y Z 8 #[.string s] V fun e w'=>∃ v,e=K (AH #[v,Ac Ad er])/\TSl w' v O/\J V.heap.size V w':=by
 by_cases h1:s.data.toList.head? =Ag 47
 . by_cases h2:OkP s
   . refine⟨BL s,0,h2.ct,fun V=>(Lm s V).mono ?_,fun V=>(Iy s V).mono ?_⟩
     all_goals
      rintro e w' (⟨_,⟨_,v,he,hv⟩| ⟨hn,_⟩,hb⟩| ⟨hn,_⟩)
      . exact⟨v,he,hv.sl,hb⟩
      . exact absurd h2 hn
      . exact absurd h1 hn
   . refine⟨[],10,AT _,fun V=>(Lm s V).mono ?_,fun V=>(Iy s V).mono ?_⟩
     all_goals
      rintro e w' (⟨_,⟨hy,_⟩| ⟨_,he⟩,hb⟩| ⟨hn,_⟩)
      . exact absurd hy h2
      . exact⟨_,he,TF _,hb⟩
      . exact absurd h1 hn
 . refine⟨[],9,AT _,fun V=>(Lm s V).mono ?_,fun V=>(Iy s V).mono ?_⟩
   all_goals
    rintro e w' (⟨hy,_⟩| ⟨_,he,rfl⟩)
    . exact absurd hy h1
    . exact⟨_,he,TF _,AC _ _⟩
theorem lPathParts_any(s:ByteArray)(w:Ai):Y Z 3 #[.string s] w fun e w'=>e=K (AP AE)/\J w.heap.size w w':=by
 obtain⟨O,er,hO,K1,K2⟩:=Xq s;have KA:=wM (J5 w);have K1:=wM K1;have K2:=wM K2;have HO:=wM hO;clear hO;go_enter Tryz.func3,Tryz.ntmps3
 go_wp2_with (first
  |(go_at_call 6;(with_reducible refine KA.out.mono ?_);rintro e w1 ⟨rfl,hb1⟩;have HB1:=wM hb1)
  |(go_at_call 7;(with_reducible refine(K1.out _).mono ?_);rintro e w2 ⟨v2,rfl,hv2,hb2⟩;have HB2:=wM (HB1.out.trans (hb2.mono HB1.out.size));have HV2:=wM hv2)
  |(go_at_call 8;(with_reducible refine(K2.out _).mono ?_);rintro e w3 ⟨v3,rfl,Rs,hb3⟩;have HB3:=wM (HB2.out.trans (hb3.mono HB2.out.size));have KT:=wM (Xy (HV2.out.below hb3) Rs rfl (by have:=HO.out;omega)))
  |(go_at_call 9;(with_reducible refine KT.out.mono ?_);rintro e w4 ⟨rfl,hb4⟩;have HB4:=wM (HB3.out.trans (hb4.mono HB3.out.size))))
 go_ret;exact⟨rfl,HB4.out⟩
end Go.Proofs.YtfpdajplfmakhaaGreatDoor
