/- What the law rests on: part 8. -/
import Derived.Test.YtaakepjgpnaecaaGreatKP7
set_option linter.unusedVariables false
namespace Go.Proofs.YtaakepjgpnaecaaGreat
set_option maxRecDepth 100000
open Go.RowKit
def OutJ (i:Nat):Prop:=i<3\/43<=i
def homeW (N:List Int) (D:List (List Int)):List (Nat × List Int):=(List.range N.length).map fun j=>((N.getD j 0).toNat,D.getD j [])
theorem homeW_mem {N:List Int}{D:List (List Int)}{x:Nat × List Int} (h:x∈homeW N D):∃ j,j<N.length/\x=((N.getD j 0).toNat,D.getD j []):=by
 obtain ⟨j,hj,rfl⟩:=List.mem_map.1 h
 exact ⟨j,List.mem_range.1 hj,rfl⟩
def farT (n:Nat) (N:List Int):Prop:=∀ j,j<N.length->OutJ (N.getD j 0).toNat/\(N.getD j 0).toNat<n
theorem homeW_one {N:List Int}{D:List (List Int)} (hF:frmT N D=true) {x y:Nat × List Int} (hx:x∈homeW N D) (hy:y∈homeW N D) (h:x.1=y.1):x.2=y.2:=by
 obtain ⟨_,_,hall⟩:=frmT_of hF
 obtain ⟨i,hi,rfl⟩:=homeW_mem hx
 obtain ⟨j,hj,rfl⟩:=homeW_mem hy
 have hi':=hall i hi
 have hj':=hall j hj
 have e:N.getD i 0=N.getD j 0:=by
  have:(N.getD i 0).toNat=(N.getD j 0).toNat:=h
  omega
 have eij:i=j:=by
  rcases Nat.lt_trichotomy i j with hlt|hlt|hlt
  · exact absurd e ((newT_iff N j hj).1 hj'.2.2 i hlt)
  · exact hlt
  · exact absurd e.symm ((newT_iff N i hi).1 hi'.2.2 j hlt)
 rw[eij]
theorem home_some {N:List Int}{D:List (List Int)} (hF:frmT N D=true) {W:List (Nat × List Int)} (hW:∀ x∈W,x∈homeW N D) (F G:List (List Int)) (i:Nat) (hi:i<G.length) (h0:F.getD i []=G.getD i []\/F.getD i []=(appU (homeW N D) G).getD i []):
 (appU W F).getD i []=G.getD i []\/(appU W F).getD i []=(appU (homeW N D) G).getD i []:=by
 by_cases hex:∃ x∈homeW N D,x.1=i
 · obtain ⟨x,hx,hxi⟩:=hex
   have hall:∀ z∈homeW N D,z.1=i->z.2=x.2:=fun z hz hzi=>homeW_one hF hz hx (hzi.trans hxi.symm)
   have h1:=appU_hit (homeW N D) G i x.2 hi hall ⟨x,hx,hxi⟩
   rw[h1]
   rcases appU_or W F i x.2 (fun z hz hzi=>hall z (hW z hz) hzi) with h|h
   · rw[h];rw[h1] at h0;exact h0
   · exact .inr h
 · have hno:∀ z∈homeW N D,z.1≠i:=fun z hz hzi=>hex ⟨z,hz,hzi⟩
   rw[appU_other W F i fun z hz=>hno z (hW z hz)]
   exact h0
theorem home_all {N:List Int}{D:List (List Int)} (hF:frmT N D=true) (F G:List (List Int)) (hl:F.length=G.length) (i:Nat) (hi:i<G.length) (h0:F.getD i []=G.getD i []\/F.getD i []=(appU (homeW N D) G).getD i []):
 (appU (homeW N D) F).getD i []=(appU (homeW N D) G).getD i []:=by
 by_cases hex:∃ x∈homeW N D,x.1=i
 · obtain ⟨x,hx,hxi⟩:=hex
   have hall:∀ z∈homeW N D,z.1=i->z.2=x.2:=fun z hz hzi=>homeW_one hF hz hx (hzi.trans hxi.symm)
   rw[appU_hit (homeW N D) G i x.2 hi hall ⟨x,hx,hxi⟩,appU_hit (homeW N D) F i x.2 (by omega) hall ⟨x,hx,hxi⟩]
 · have hno:∀ z∈homeW N D,z.1≠i:=fun z hz hzi=>hex ⟨z,hz,hzi⟩
   have e:=appU_other (homeW N D) G i hno
   rw[appU_other _ F i hno,e]
   rcases h0 with h0|h0
   · exact h0
   · rw[h0,e]
theorem home_jour {N:List Int}{D:List (List Int)}{n:Nat} (hf:farT n N) {W:List (Nat × List Int)} (hW:∀ x∈W,x∈homeW N D) (F:List (List Int)) (h:43<=F.length):jour (appU W F)=jour F:=by
 refine jour_congr (by rw[appU_length];exact h) h fun i h1 h2=>appU_other W F i fun x hx e=>?_
 obtain ⟨j,hj,rfl⟩:=homeW_mem (hW x hx)
 have:=(hf j hj).1
 have e:(N.getD j 0).toNat=i:=e
 rw[e] at this
 rcases this with h|h <;> omega
def InvT (F:List (List Int)) (q:Int) (N:List Int) (D G:List (List Int)):Prop:=
 F.length=G.length/\isTxn (jour F) q N D/\∀ i,OutJ i->i<G.length->F.getD i []=G.getD i []\/F.getD i []=(appU (homeW N D) G).getD i []
def InvN (F G:List (List Int)):Prop:=F.length=G.length/\F.getD 42 []=z256/\∀ i,OutJ i->i<G.length->F.getD i []=G.getD i []
theorem InvT.home {F:List (List Int)}{q:Int}{N:List Int}{D G:List (List Int)} (h:InvT F q N D G) (hF:frmT N D=true) (hf:farT G.length N) (hG:43<=G.length) {W:List (Nat × List Int)} (hW:∀ x∈W,x∈homeW N D):InvT (appU W F) q N D G:=
 ⟨by rw[appU_length];exact h.1,by rw[home_jour hf hW F (by rw[h.1];exact hG)];exact h.2.1,fun i hi hl=>home_some hF hW F G i hl (h.2.2 i hi hl)⟩
theorem InvT.done {F:List (List Int)}{q:Int}{N:List Int}{D G:List (List Int)} (h:InvT F q N D G) (hF:frmT N D=true) (i:Nat) (hi:OutJ i) (hl:i<G.length):(appU (homeW N D) F).getD i []=(appU (homeW N D) G).getD i []:=
 home_all hF F G h.1 i hl (h.2.2 i hi hl)
def layA (q:Int) (W:List (Nat × List Int)):List PA:=[.f,.w 42 z256,.f] ++ (W.map fun y=>.w y.1 y.2) ++ [.f,.w 42 (sealS (endL q)),.f]
def layW (q:Int) (N:List Int) (D:List (List Int)) (W:List (Nat × List Int)):Prop:=
 (∀ x∈W,3<=x.1/\x.1<42)/\∀ F:List (List Int),43<=F.length->(appU W F).getD 3 []=sealS (headL q N)/\∀ j,j<N.length->(appU W F).getD (4+j) []=D.getD j []
theorem set_other (F:List (List Int)) (k i:Nat) (x:List Int) (h:k≠i):(F.set k x).getD i []=F.getD i []:=by
 rw[List.getD_eq_getElem?_getD,List.getElem?_set_ne h,<- List.getD_eq_getElem?_getD]
theorem set_same (F:List (List Int)) (k:Nat) (x:List Int) (h:k<F.length):(F.set k x).getD k []=x:=by
 simp[List.getD_eq_getElem?_getD,h]
theorem keepU_one (kp:Nat->Bool) (x:Nat × List Int):keepU kp [x]=[]\/keepU kp [x]=[x]:=by
 unfold keepU
 cases h:kp 0
 · left;simp[h]
 · right;simp[h]
theorem lay_crash {q1 q2:Int}{N1 N2:List Int}{D1 D2 Z:List (List Int)} (hZ:43<=Z.length) {W:List (Nat × List Int)} (hW:layW q2 N2 D2 W) (hF1:frmT N1 D1=true) (hf1:farT Z.length N1) (hF2:frmT N2 D2=true) (hq2:0<=q2/\q2<4294967296)
 (s:DS) (hs:InvT s.F q1 N1 D1 Z) (hU:∀ x∈s.U,x∈homeW N1 D1) (hv:∀ i,OutJ i->i<Z.length->s.vis.getD i []=(appU (homeW N1 D1) Z).getD i []) (kp:Nat->Bool):
 let r:=runA (layA q2 W) s
 let G:=appU (homeW N1 D1) Z
 (InvT (appU (keepU kp r.2.U) r.2.F) q1 N1 D1 Z/\r.1=2\/InvN (appU (keepU kp r.2.U) r.2.F) G/\r.1=2\/InvT (appU (keepU kp r.2.U) r.2.F) q2 N2 D2 G)/\
   (r.1=0->r.2.U=[]/\InvT r.2.F q2 N2 D2 G/\∀ i,OutJ i->i<Z.length->r.2.F.getD i []=G.getD i []):=by
 intro r G
 have hGl:G.length=Z.length:=appU_length _ _
 obtain ⟨k,hk,hfu,hr⟩:=runA_pre (layA q2 W) s
 have hrF:r.2.F=(foldA ((layA q2 W).take k) s.fuP).1:=congrArg Prod.fst hfu
 have hrU:r.2.U=(foldA ((layA q2 W).take k) s.fuP).2:=congrArg Prod.snd hfu
 have hlen:(layA q2 W).length=6+W.length:=by simp[layA];omega
 obtain ⟨V0,hV0⟩:∃ V0,V0=s.vis:=⟨_,rfl⟩
 have hV0l:V0.length=Z.length:=by rw[hV0,DS.vis_length,hs.1]
 have hV0j:jour V0=jour s.F:=by rw[hV0];exact home_jour hf1 hU s.F (by rw[hs.1];exact hZ)
 have hV0o:∀ i,OutJ i->i<Z.length->V0.getD i []=G.getD i []:=by rw[hV0];exact hv
 have hI0:InvT V0 q1 N1 D1 Z:=⟨hV0l,by rw[hV0j];exact hs.2.1,fun i hi hl=>.inr (hV0o i hi hl)⟩
 obtain ⟨V1,hV1⟩:∃ V1,V1=V0.set 42 z256:=⟨_,rfl⟩
 have hV1l:V1.length=Z.length:=by rw[hV1,List.length_set,hV0l]
 have out42:∀ i,OutJ i->42≠i:=fun i hi e=>by rcases hi with h|h <;> omega
 have hV1o:∀ i,OutJ i->i<Z.length->V1.getD i []=G.getD i []:=fun i hi hl=>by rw[hV1,set_other _ _ _ _ (out42 i hi)];exact hV0o i hi hl
 have hV1z:V1.getD 42 []=z256:=by rw[hV1];exact set_same _ _ _ (by omega)
 have hN1:InvN V1 G:=⟨by rw[hV1l,hGl],hV1z,fun i hi hl=>hV1o i hi (by rw[hGl] at hl;exact hl)⟩
 have hWN:∀ X,(∀ x∈X,x∈W)->InvN (appU X V1) G:=fun X hX=>by
  refine ⟨by rw[appU_length,hV1l,hGl],?_,fun i hi hl=>?_⟩
  · rw[appU_other X V1 42 fun x hx e=>by have:=(hW.1 x (hX x hx)).2;omega];exact hV1z
  · rw[appU_other X V1 i fun x hx e=>by have:=hW.1 x (hX x hx);rcases hi with h|h <;> omega]
    exact hV1o i hi (by rw[hGl] at hl;exact hl)
 obtain ⟨V2,hV2⟩:∃ V2,V2=appU W V1:=⟨_,rfl⟩
 have hV2l:V2.length=Z.length:=by rw[hV2,appU_length,hV1l]
 have hN2:InvN V2 G:=by rw[hV2];exact hWN W fun x hx=>hx
 obtain ⟨V3,hV3⟩:∃ V3,V3=V2.set 42 (sealS (endL q2)):=⟨_,rfl⟩
 have hV3l:V3.length=Z.length:=by rw[hV3,List.length_set,hV2l]
 obtain ⟨hd,hbl⟩:=hW.2 V1 (by omega)
 have h37:=(frmT_of hF2).1
 have hT3:isTxn (jour V3) q2 N2 D2:=by
  refine jour_txn (by omega) hF2 hq2 ?_ (fun j hj=>?_) ?_
  · rw[hV3,set_other _ _ _ _ (by omega),hV2];exact hd
  · rw[hV3,set_other _ _ _ _ (by omega),hV2];exact hbl j hj
  · rw[hV3];exact set_same _ _ _ (by omega)
 have hV3o:∀ i,OutJ i->i<Z.length->V3.getD i []=G.getD i []:=fun i hi hl=>by rw[hV3,set_other _ _ _ _ (out42 i hi)];exact hN2.2.2 i hi (by rw[hGl];exact hl)
 have hI3:InvT V3 q2 N2 D2 G:=⟨by rw[hV3l,hGl],hT3,fun i hi hl=>.inl (hV3o i hi (by rw[hGl] at hl;exact hl))⟩
 have full:k=(layA q2 W).length->r.2.F=V3/\r.2.U=[]:=fun e=>by
  rw[hrF,hrU,e,List.take_length]
  unfold layA
  rw[foldA_append,foldA_append,foldA_ws]
  have a1:foldA [.f,.w 42 z256,.f] s.fuP=(V1,[]):=by
   show (appU ([] ++ [(42,z256)]) (appU s.U s.F),([]:List (Nat × List Int)))=(V1,[])
   rw[hV1,hV0];rfl
  rw[a1]
  show (appU ([] ++ [(42,sealS (endL q2))]) (appU ([] ++ W) V1))=V3/\_
  rw[hV3,hV2]
  exact ⟨rfl,rfl⟩
 refine ⟨?_,fun h0=>?_⟩
 · have hcase:k=0\/k=1\/k=2\/(3<=k/\k<=3+W.length)\/k=4+W.length\/k=5+W.length\/k=6+W.length:=by omega
   have h2:k≠(layA q2 W).length->r.1=2:=fun hne=>by
    rcases hr with ⟨_,h⟩|h
    · exact absurd h hne
    · exact h
   have step:∀ j,(layA q2 W).take (3+j)=([PA.f,PA.w 42 z256,PA.f]:List PA) ++ ((W.map fun y:Nat × List Int=>PA.w y.1 y.2) ++ [PA.f,PA.w 42 (sealS (endL q2)),PA.f]).take j:=fun j=>by
    unfold layA
    rw[List.append_assoc]
    exact List.take_length_add_append (l₁:=([PA.f,PA.w 42 z256,PA.f]:List PA)) j
   have a1:foldA [.f,.w 42 z256,.f] s.fuP=(V1,[]):=by
    show (appU ([] ++ [(42,z256)]) (appU s.U s.F),([]:List (Nat × List Int)))=(V1,[])
    rw[hV1,hV0];rfl
   rcases hcase with rfl|rfl|rfl| ⟨ha,hb⟩|rfl|rfl|rfl
   · refine .inl ⟨?_,h2 (by omega)⟩
     have e1:r.2.F=s.F:=hrF
     have e2:r.2.U=s.U:=hrU
     rw[e1,e2]
     exact hs.home hF1 hf1 hZ fun x hx=>hU x (keepU_mem hx)
   · refine .inl ⟨?_,h2 (by omega)⟩
     have e1:r.2.F=V0:=by rw[hV0];exact hrF
     have e2:r.2.U=[]:=hrU
     rw[e1,e2]
     exact hI0
   · have e1:r.2.F=V0:=by rw[hV0];exact hrF
     have e2:r.2.U=[(42,z256)]:=hrU
     rw[e1,e2]
     rcases keepU_one kp (42,z256) with e|e
     · rw[e];exact .inl ⟨hI0,h2 (by omega)⟩
     · rw[e]
       refine .inr (.inl ⟨?_,h2 (by omega)⟩)
       show InvN (V0.set 42 z256) G
       rw[<- hV1];exact hN1
   · obtain ⟨j,rfl⟩:∃ j,k=3+j:=⟨k-3,by omega⟩
     have hj:j<=W.length:=by omega
     rw[step,List.take_append_of_le_length (by simpa using hj),<- List.map_take,foldA_append,a1,foldA_ws] at hrF hrU
     rw[hrF,hrU]
     refine .inr (.inl ⟨hWN _ fun x hx=>?_,h2 (by omega)⟩)
     have:=keepU_mem hx
     rw[List.nil_append] at this
     exact List.mem_of_mem_take this
   · have e0:(layA q2 W).take (4+W.length)=[.f,.w 42 z256,.f] ++ ((W.map fun y=>PA.w y.1 y.2) ++ [.f]):=by
      rw[show 4+W.length=3+(W.length+1) by omega,step]
      congr 1
      rw[show W.length+1=(W.map fun y=>PA.w y.1 y.2).length+1 by simp,List.take_length_add_append];rfl
     rw[e0,foldA_append,foldA_append,a1,foldA_ws] at hrF hrU
     have e1:r.2.F=V2:=by rw[hV2];exact hrF
     have e2:r.2.U=[]:=hrU
     rw[e1,e2]
     exact .inr (.inl ⟨hN2,h2 (by omega)⟩)
   · have e0:(layA q2 W).take (5+W.length)=[.f,.w 42 z256,.f] ++ ((W.map fun y=>PA.w y.1 y.2) ++ [.f,.w 42 (sealS (endL q2))]):=by
      rw[show 5+W.length=3+(W.length+2) by omega,step]
      congr 1
      rw[show W.length+2=(W.map fun y=>PA.w y.1 y.2).length+2 by simp,List.take_length_add_append];rfl
     rw[e0,foldA_append,foldA_append,a1,foldA_ws] at hrF hrU
     have e1:r.2.F=V2:=by rw[hV2];exact hrF
     have e2:r.2.U=[(42,sealS (endL q2))]:=hrU
     rw[e1,e2]
     rcases keepU_one kp (42,sealS (endL q2)) with e|e
     · rw[e];exact .inr (.inl ⟨hN2,h2 (by omega)⟩)
     · rw[e]
       refine .inr (.inr ?_)
       show InvT (V2.set 42 (sealS (endL q2))) q2 N2 D2 G
       rw[<- hV3];exact hI3
   · obtain ⟨e1,e2⟩:=full (by omega)
     rw[e1,e2]
     exact .inr (.inr hI3)
 · have hkk:k=(layA q2 W).length:=by
    rcases hr with ⟨_,h⟩|h
    · exact h
    · have h0':(runA (layA q2 W) s).1=0:=h0
      rw[h0'] at h;cases h
   obtain ⟨e1,e2⟩:=full hkk
   rw[e1,e2]
   exact ⟨rfl,hI3,hV3o⟩
def homeA (N:List Int) (D:List (List Int)):List PA:=(homeW N D).map fun y=>.w y.1 y.2
theorem foldA_home (N:List Int) (D:List (List Int)) (k:Nat) (x:List (List Int) × List (Nat × List Int)):foldA ((homeA N D).take k) x=(x.1,x.2 ++ (homeW N D).take k):=by
 unfold homeA
 rw[<- List.map_take,foldA_ws]
theorem homeA_length (N:List Int) (D:List (List Int)):(homeA N D).length=N.length:=by simp[homeA,homeW]
theorem home_crash {q:Int}{N:List Int}{D G:List (List Int)} (hF:frmT N D=true) (hf:farT G.length N) (hG:43<=G.length) (s:DS) (hs:InvT s.F q N D G) (hU:∀ x∈s.U,x∈homeW N D) (fl:Bool) (kp:Nat->Bool):
 let r:=runA (homeA N D ++ (if fl then [.f] else [])) s
 InvT (appU (keepU kp r.2.U) r.2.F) q N D G/\InvT r.2.F q N D G/\(∀ x∈r.2.U,x∈homeW N D):=by
 intro r
 obtain ⟨k,hk,hfu,_⟩:=runA_pre (homeA N D ++ (if fl then [PA.f] else [])) s
 have hrF:r.2.F=(foldA ((homeA N D ++ (if fl then [PA.f] else [])).take k) s.fuP).1:=congrArg Prod.fst hfu
 have hrU:r.2.U=(foldA ((homeA N D ++ (if fl then [PA.f] else [])).take k) s.fuP).2:=congrArg Prod.snd hfu
 have key:InvT r.2.F q N D G/\∀ x∈r.2.U,x∈homeW N D:=by
  by_cases hkl:k<=(homeA N D).length
  · rw[List.take_append_of_le_length hkl,foldA_home] at hrF hrU
    rw[hrF,hrU]
    refine ⟨hs,fun x hx=>?_⟩
    rcases List.mem_append.1 hx with h|h
    · exact hU x h
    · exact List.mem_of_mem_take h
  · cases fl
    · rw[List.length_append] at hk
      simp at hk
      omega
    · have e:(homeA N D ++ (if true then [PA.f] else [])).take k=homeA N D ++ [PA.f]:=by
       apply List.take_of_length_le
       simp
       omega
      rw[e,foldA_append] at hrF hrU
      have e2:=foldA_home N D (homeA N D).length s.fuP
      rw[List.take_length] at e2
      rw[e2] at hrF hrU
      have e3:(homeW N D).take (homeA N D).length=homeW N D:=by
       apply List.take_of_length_le
       simp[homeA]
      rw[e3] at hrF hrU
      have e4:r.2.F=appU (s.U ++ homeW N D) s.F:=hrF
      have e5:r.2.U=[]:=hrU
      rw[e4,e5]
      refine ⟨hs.home hF hf hG fun x hx=>?_,fun x hx=>by cases hx⟩
      rcases List.mem_append.1 hx with h|h
      · exact hU x h
      · exact h
 exact ⟨key.1.home hF hf hG fun x hx=>key.2 x (keepU_mem hx),key.1,key.2⟩
section
variable {w:World}{P:Nat->Prop}{p:Value}{s:DS}
theorem kBlocks (h:Dk w P p s):Calls Tryz.prog 77 #[p] w fun e w'=>e=.returned (.int .i64 (s.F.length:Nat))/\w=w':=by
 obtain ⟨bp,bf,bv,u,rfl,h,_⟩:=h
 have c1:=h.c1
 rw[DS.vis_length] at c1
 clear h
 go_enter Tryz.func77,Tryz.ntmps77
 go_wp2
 go_ret
 exact ⟨rfl,rfl⟩
set_option maxRecDepth 100000 in
theorem kRead (hk:Dk w P p s) (n:Nat) (hn:n<s.F.length) (hd:s.dn=false):
 Calls Tryz.prog 50 #[p,.int .i64 n] w fun e w'=>∃ v,e=.returned (.tuple #[v,.int .i64 0])/\BSl w' v (s.vis.getD n [])/\Below w.heap.size w w'/\v=.slice (some ⟨w.heap.size,0,none⟩) 256 256:=by
 obtain ⟨bp,bf,bv,u,rfl,h,_⟩:=hk
 rw[hd] at h
 have hnV:n<s.vis.length:=by rw[DS.vis_length];exact hn
 have hge:s.vis.getD n []=s.vis[n]:=by rw[List.getD_eq_getElem?_getD,List.getElem?_eq_getElem hnV];rfl
 rw[hge]
 generalize s.vis=V at h hnV |-
 clear hge hn
 have hlen:Tryz.prog.arrayLen 126=256:=by kernel_rfl
 have hblk:Blk V[n]:=h.okV _ (List.getElem_mem _)
 have hmem:=range_row h.hv (o:=n*256) (vs:=cB V[n]) (by rw[cB_length,hblk.1];exact flat_get (flatB_len h.okV) n hnV)
 have KH:=Lib.hid (dHas_at h n)
 have hdc:decide (0<=(n:Int)/\(n:Int)<V.length)=true:=decide_eq_true (by omega)
 rw[hdc] at KH
 obtain ⟨b,hb⟩:∃ b,b=V[n]:=⟨_,rfl⟩
 rw[<- hb] at hblk hmem |-
 have HL:Hid ((cB b).length=256):=by show _=_;rw[cB_length,hblk.1]
 have HR:=Lib.hid hmem
 have HB:=Lib.hid hblk
 have HZ:=Lib.hid zB_length
 have hone:∀ v∈zB,v.oneCell'=true:=fun v hv=>by rw[List.eq_of_mem_replicate hv];rfl
 have c1:=h.c1
 have c5:=h.c5
 have hn':(n:Int)<V.length:=by omega
 clear hb hblk hmem h hdc hd
 go_enter Tryz.func50,Tryz.ntmps50
 go_wp2_with (first
  |(go_at_call 81;refine KH.out.mono ?_;rintro e w' ⟨rfl,rfl⟩)
  |with_reducible refine wpList_allocB _ rfl rfl ?_
  |(refine wpList_loadB _ rfl _ (by rfl) bv (n*256) (cB b) (by rfl) HR.out HL.out ?_)
  |(refine wpList_storeB _ rfl _ _ (by rfl) _ 126 zB (cB b) (by rfl) (by rfl) (heap_alloc_last _ _) HZ.out HL.out (cB_one b) ?_
    rw[World.setRow_alloc_new]))
 go_ret2
 refine ⟨_,rfl,⟨HB.out.2,.inr ⟨_,256,by rw[HB.out.1];rfl,by rw[HB.out.1];exact Nat.le_refl _,fun j hj=>⟨by simp,rfl,?_⟩⟩⟩,(Below.refl _ _).alloc (Nat.le_refl _) _,rfl⟩
 show (w.alloc (.cells (cB b).toArray 126)).cell? ⟨w.heap.size,0+j,none⟩=_
 rw[cell_of_row _ _ _ _ _ _ (heap_alloc_last w _)]
 simp[cB,List.getD_eq_getElem?_getD,hj]
theorem kWrite (h:Dk w P p s) (n:Nat) (hn:n<s.F.length) {v:Value}{l:List Int} (hv:BSl w v l) (hl:l.length=256) (hU:s.U.length<=1000000):
 Calls Tryz.prog 164 #[p,.int .i64 n,v] w fun e w'=>e=.returned (.int .i64 (if s.ok then 0 else 2))/\∃ P',Dk w' P' p (if s.ok then s.write n l else s.pay)/\Chg P P' w w':=by
 obtain ⟨bp,bf,bv,u,rfl,h,⟨h0,h1⟩,hP⟩:=h
 cases hok:s.ok
 · refine (dWrite_off h h0 h1 n hv ⟨by rw[DS.vis_length];omega,hl⟩ hok).mono ?_
   rintro e w' ⟨rfl,hd,hw⟩
   exact ⟨rfl,P,⟨bp,bf,bv,u,rfl,hd,pLe_bound ⟨h0,h1⟩,hP⟩,Chg.of_wrote hP hw⟩
 · refine (dWrite_on h h0 h1 hok n (by rw[DS.vis_length];exact hn) hv hl hU).mono ?_
   rintro e w' ⟨rfl,u',hd,_,hfr⟩
   refine ⟨rfl,_,⟨bp,bf,bv,u',rfl,?_,pLe_bound ⟨h0,h1⟩,fun k=>Iff.rfl⟩,Chg.of_frU hP hfr⟩
   show DskAt w' 0 bp bf bv u' s.F (s.write n l).vis (s.U ++ [(n,l)]) s.fu _ _
   rw[DS.write_vis]
   exact hd
theorem kFlush (h:Dk w P p s) (hU:s.U.length<=1000000):
 Calls Tryz.prog 127 #[p] w fun e w'=>e=.returned (.int .i64 (if s.ok then 0 else 2))/\∃ P',Dk w' P' p (if s.ok then s.flush else s.pay)/\Chg P P' w w':=by
 obtain ⟨bp,bf,bv,u,rfl,h,⟨h0,h1⟩,hP⟩:=h
 have KP:=Lib.hid (dPowered_any h h0 h1)
 have HP:=Lib.hid hP
 have HB:=Lib.hid (pLe_bound (fu:=s.fu) (dn:=s.dn) ⟨h0,h1⟩)
 cases hok:s.ok
 · have hok':pOk s.fu s.le s.dn=false:=hok
   rw[hok'] at KP
   clear h h0 h1 hP hok hok'
   go_enter Tryz.func127,Tryz.ntmps127
   go_wp2_with (go_at_call 165;refine KP.out.mono ?_;rintro e w2 ⟨rfl,hd2,hw2⟩)
   go_ret
   exact ⟨rfl,P,⟨bp,bf,bv,u,rfl,hd2,HB.out,HP.out⟩,Chg.of_wrote HP.out hw2⟩
 · have hok':pOk s.fu s.le s.dn=true:=hok
   rw[hok'] at KP
   have HSF:=Lib.hid (stF_all s.U s.F)
   have HSV:=Lib.hid (stV_is (fun _=>true) s.U s.F)
   clear h h0 h1 hP hok hok'
   go_enter Tryz.func127,Tryz.ntmps127
   go_wp2_with (first
    |(go_at_call 165;refine KP.out.mono ?_;rintro e w2 ⟨rfl,hd2,hw2⟩)
    |(go_at_call 166;refine (dSettleFw hd2 (Nat.zero_le _) hU (fun _=>true) (fun W _ i _=>dFlush1_any W i)).mono ?_
      rintro e w4 ⟨rfl,h4,_,f4⟩))
   go_ret
   refine ⟨rfl,_,⟨bp,bf,bv,.slice none 0 0,rfl,?_,HB.out,fun k=>Iff.rfl⟩,(Chg.of_wrote HP.out hw2).trans (Chg.of_fr3 HP.out f4)⟩
   show DskAt w4 0 bp bf bv (.slice none 0 0) s.vis s.flush.vis [] s.fu _ _
   rw[DS.flush_vis]
   have hd4:DskAt w4 0 bp bf bv (.slice none 0 0) (stF (fun _=>true) s.U s.F s.U.length) (stV s.U (stF (fun _=>true) s.U s.F s.U.length) (appU s.U s.F) s.U.length) [] s.fu (pLe s.fu s.le s.dn) (pDn s.fu s.le s.dn):=h4
   rw[HSV.out,HSF.out,keepU_all] at hd4
   exact hd4
end
theorem kNew (w:World) (n:Nat) (hn:n<=2000):
 Calls Tryz.prog 53 #[.int .i64 n] w fun e w'=>∃ p P,e=.returned p/\Dk w' P p (DS.new n)/\(∀ k,P k->w.heap.size<=k)/\Below w.heap.size w w':=by
 refine (dNew_at w n hn).mono ?_
 rintro e w' ⟨p,rfl,_,⟨bp,bf,bv,u,rfl,hd⟩,hb⟩
 refine ⟨_,DOwn bp bf bv u,rfl,⟨bp,bf,bv,u,rfl,hd.lower,⟨Int.le_refl _,(by decide:(0:Int)<=9223372036854775807)⟩,fun k=>Iff.rfl⟩,fun k hk=>?_,hb⟩
 rcases hk with rfl|rfl|rfl|hk
 · exact hd.bB.1
 · exact hd.bB.2.1
 · exact hd.bB.2.2
 · exact (hd.hu.lt k hk).1
theorem ISc.chg {P P':Nat->Prop}{w w':World}{v:Value}{l:List Int} (h:ISc w v l) (ha:Apt P v) (hc:Chg P P' w w'):ISc w' v l/\Apt P' v:=
 ⟨⟨(h.1.chg ha hc).1,h.2⟩,(h.1.chg ha hc).2⟩
theorem Dk.types {w:World}{P:Nat->Prop}{p:Value}{s:DS} (h:Dk w P p s) (k:Nat) (hk:P k):∃ cur T,w.heap[k]? =some (.cells cur T (0,0))/\(T=124\/T=126\/T=151):=by
 obtain ⟨bp,bf,bv,u,_,hd,_,hP⟩:=h
 rcases (hP k).1 hk with rfl|rfl|rfl|hu
 · exact ⟨_,_,hd.hp,.inl rfl⟩
 · exact ⟨_,_,hd.hf,.inr (.inl rfl)⟩
 · exact ⟨_,_,hd.hv,.inr (.inl rfl)⟩
 · rcases hd.hu.2 with ⟨h0,_⟩| ⟨g,cap,cur,hv,_,hh,_⟩
   · rw[h0] at hu;simp[Value.ownBlock] at hu
   · rw[hv] at hu
     obtain rfl:g=k:=by simpa [Value.ownBlock] using hu
     exact ⟨_,_,hh,.inr (.inr rfl)⟩
theorem Dk.not {w:World}{P:Nat->Prop}{p:Value}{s:DS} (h:Dk w P p s) {k:Nat}{cur:Array Value}{T:TypeId} (hk:w.heap[k]? =some (.cells cur T (0,0))) (h1:T≠124) (h2:T≠126) (h3:T≠151):¬ P k:=fun hp=>by
 obtain ⟨cur',T',he,ht⟩:=h.types k hp
 rw[hk] at he
 injection he with he
 injection he with _ e
 subst e
 rcases ht with ht|ht|ht
 · exact h1 ht
 · exact h2 ht
 · exact h3 ht
theorem BElt.apt {w:World}{P:Nat->Prop}{p:Value}{s:DS} (h:Dk w P p s) {v:Value}{l:List Int} (ho:BElt w 0 v l):Apt P v:=by
 intro ad n cap e hn
 rcases ho.1.2 with ⟨hv,_⟩| ⟨a,c,hv,_,hc⟩
 · rw[hv] at e;cases e
 · have e':=e
   rw[hv] at e'
   have hl:0<l.length:=by rw[(Value.slice.inj e').2.1];exact hn
   obtain ⟨b,off,c',hv',_,hor⟩:=ho.2 hl
   rw[hv'] at e
   obtain rfl:=Option.some.inj (Value.slice.inj e).1
   rcases hor with h0| ⟨cur,hh⟩
   · omega
   · exact h.not hh (by decide) (by decide) (by decide)
theorem IR.apt {w:World}{P:Nat->Prop}{p:Value}{s:DS} (h:Dk w P p s) {B:Nat}{v:Value}{l:List Int} (ho:IR w B v l):Apt P v:=by
 intro ad n cap e hn
 rcases ho.2 with ⟨hv,_⟩| ⟨g,c,cur,hv,_,hh,_⟩
 · rw[hv] at e;cases e
 · rw[hv] at e
   obtain rfl:=Option.some.inj (Value.slice.inj e).1
   exact h.not hh (by decide) (by decide) (by decide)
theorem BBR.apart {w:World}{P:Nat->Prop}{p:Value}{s:DS} (h:Dk w P p s) {v:Value}{L:List (List Int)} (ho:BBR w 0 v L):BBa w P v L:=by
 obtain ⟨vs,hl,hr,ow⟩:=ho
 rcases ow.2 with ⟨hv,hl0⟩| ⟨g,cap,cur,hv,hg,hh,hnc,hcm,hcs,ht⟩
 · exact .inl ⟨hv,List.eq_nil_of_length_eq_zero hl0⟩
 · refine .inr ⟨_,cap,hv,hnc,fun j hj=>⟨⟨(Array.getElem?_eq_some_iff.1 hh).1,h.not hh (by decide) (by decide) (by decide)⟩,rfl,vs.getD j undef,?_,(hr j hj).1,(hr j hj).apt h⟩⟩
   show w.cell? ⟨g,0+j,none⟩=_
   rw[Nat.zero_add,cell_of_row _ _ _ _ _ _ hh]
   have:(cur.toList.take (L.length*1))[j]? =vs[j]? :=by rw[ht]
   rw[List.getElem?_take,if_pos (by omega)] at this
   simpa [List.getD_eq_getElem?_getD,show j<vs.length by omega] using this
def TxVa (w:World) (P:Nat->Prop) (v:Value) (q:Int) (N:List Int) (D:List (List Int)):Prop:=
 ∃ no nc ao dc,v=.agg #[.int .u32 q,.slice no N.length nc,.slice ao D.length dc]/\(ISc w (.slice no N.length nc) N/\Apt P (.slice no N.length nc))/\BBa w P (.slice ao D.length dc) D
theorem TxVa.v {w:World}{P:Nat->Prop}{v:Value}{q:Int}{N:List Int}{D:List (List Int)} (h:TxVa w P v q N D):TxV w v q N D:=by
 obtain ⟨no,nc,ao,dc,h1,h2,h3⟩:=h
 exact ⟨no,nc,ao,dc,h1,h2.1,h3.sl⟩
theorem TxVa.chg {P P':Nat->Prop}{w w':World}{v:Value}{q:Int}{N:List Int}{D:List (List Int)} (h:TxVa w P v q N D) (hc:Chg P P' w w'):TxVa w' P' v q N D:=by
 obtain ⟨no,nc,ao,dc,h1,h2,h3⟩:=h
 exact ⟨no,nc,ao,dc,h1,h2.1.chg h2.2 hc,h3.chg hc⟩
theorem TxVa.own {w:World}{P:Nat->Prop}{p:Value}{s:DS} (h:Dk w P p s) {q:Int}{vN vD:Value}{N:List Int}{D:List (List Int)} (hN:IR w 0 vN N) (hD:BBR w 0 vD D):TxVa w P (.agg #[.int .u32 q,vN,vD]) q N D:=by
 have hN':=hN.isc
 have hD':=hD.apart h
 have ha:=hN.apt h
 obtain ⟨_,no,nc,rfl,_⟩:=hN'
 obtain ⟨ao,dc,rfl,_⟩:=hD'.sl.shape
 exact ⟨no,nc,ao,dc,rfl,⟨hN.isc,ha⟩,hD'⟩
def hasN (n:Nat) (N:List Int):Bool:=(List.range N.length).all fun k=>decide (N.getD k 0<(n:Int))
theorem hasN_iff (n:Nat) (N:List Int):hasN n N=true ↔ ∀ k,k<N.length->N.getD k 0<(n:Int):=by
 unfold hasN
 rw[List.all_eq_true]
 exact ⟨fun h k hk=>of_decide_eq_true (h k (List.mem_range.2 hk)),fun h k hk=>decide_eq_true (h k (List.mem_range.1 hk))⟩
theorem hasN_no {n:Nat}{N:List Int} (k:Nat) (hk:k<N.length) (h:¬ N.getD k 0<(n:Int)):hasN n N=false:=by
 cases e:hasN n N
 · rfl
 · exact absurd ((hasN_iff n N).1 e k hk) h
section
variable {w:World}{P:Nat->Prop}{p:Value}{s:DS}
theorem gUsable_is (h:Dk w P p s) (B:Bool) (hB:decide (64<=s.F.length)=B):Calls Tryz.prog 173 #[p] w fun e w'=>e=.returned (.bool B)/\w=w':=by
 have KB:=Lib.hid (kBlocks h)
 obtain ⟨bp,rfl⟩:=h.ptr
 generalize s.F.length=n at KB hB
 have hB2:decide ((64:Int)<=(n:Int))=B:=by rw[<- hB];exact decide_eq_decide.2 (by omega)
 have HB:=Lib.hid (congrArg (fun b=>Ending.returned (Value.bool b)) hB2)
 clear h hB hB2
 go_enter Tryz.func173,Tryz.ntmps173
 go_wp2_with (go_at_call 77;(with_reducible refine KB.out.mono ?_);rintro e w2 ⟨rfl,rfl⟩)
 go_ret
 exact ⟨HB.out,rfl⟩
theorem gHas_is (h:Dk w P p s) {v:Value}{N:List Int} (hs:ISl w v N) (hN:N.length<=1000000) (B:Bool) (hB:hasN s.F.length N=B):Calls Tryz.prog 175 #[p,v] w fun e w'=>e=.returned (.bool B)/\w=w':=by
 have KB:=Lib.hid (kBlocks h)
 obtain ⟨bp,rfl⟩:=h.ptr
 obtain ⟨ao,cap,rfl,hc⟩:=hs.open'
 have hno:=fun k hk h=>hasN_no (n:=s.F.length) (N:=N) k hk h
 have hyes:=(hasN_iff s.F.length N).2
 rw[hB] at hno hyes
 generalize s.F.length=z at KB hno hyes
 obtain ⟨n,hn⟩:∃ n,n=N.length:=⟨_,rfl⟩
 rw[<- hn] at hc hno hyes hN |-
 have HC:=Lib.hid hc
 have HNO:=Lib.hid hno
 have HYE:=Lib.hid hyes
 clear h hs hc hno hyes hB hn
 go_enter Tryz.func175,Tryz.ntmps175
 go_wp2
 go_loop [9] (fun i=>∃ k:Nat,k<=n/\i=.int .i64 k/\Hid (∀ j,j<k->N.getD j 0<(z:Int))) (fun i=>n-(intOf i).toNat)
 case atStart=>exact ⟨0,by omega,rfl,fun j hj=>absurd hj (Nat.not_lt_zero _)⟩
 case round=>
  obtain ⟨k,hk,rfl,HK⟩:=hrel
  by_cases hlt:k<n
  · obtain ⟨b,off,rfl,_,hcc⟩:=HC.out (by omega)
    have hck:=hcc k hlt
    have hn1:=HNO.out k hlt
    obtain ⟨x,hx⟩:∃ x,x=N.getD k 0:=⟨_,rfl⟩
    rw[<- hx] at hck hn1
    have HX:=Lib.hid hx
    have HN1:=Lib.hid hn1
    have ek:(k:Int)<(n:Int):=by omega
    clear hx hcc hn1
    by_cases hf:x<(z:Int)
    · have h1:¬ (z:Int)<=x:=by omega
      go_wp2_with (go_at_call 77;(with_reducible refine KB.out.mono ?_);rintro e w2 ⟨rfl,rfl⟩)
      go_round
      case rel=>
       refine ⟨k+1,by omega,by go_num,fun j hj=>?_⟩
       by_cases e:j=k
       · subst e;rw[<- HX.out];exact hf
       · exact HK.out j (by omega)
      case measure=>simp[intOf];omega
    · have h1:(z:Int)<=x:=by omega
      have hR:=HN1.out (by first|exact hf|exact h1)
      subst hR
      go_wp2_with (go_at_call 77;(with_reducible refine KB.out.mono ?_);rintro e w2 ⟨rfl,rfl⟩)
      go_ret
      exact ⟨rfl,rfl⟩
  · obtain rfl:k=n:=by omega
    have hR:=HYE.out HK.out
    subst hR
    go_wp2
    go_ret
    exact ⟨rfl,rfl⟩
def takesT (n:Nat) (N:List Int) (D:List (List Int)):Bool:=decide (64<=n) && (frmT N D && hasN n N)
theorem gTakes_is (h:Dk w P p s) {v:Value}{q:Int}{N:List Int}{D:List (List Int)} (hv:TxV w v q N D) (B:Bool) (hB:takesT s.F.length N D=B):
 Calls Tryz.prog 161 #[p,v] w fun e w'=>e=.returned (.bool B)/\Below w.heap.size w w':=by
 have hv':=hv
 obtain ⟨no,nc,ao,dc,rfl,hN,hD⟩:=hv
 have KU:=Lib.hid (fun W (hb:Below w.heap.size w W) B hB=>gUsable_is (h.below hb) B hB)
 have KF:=Lib.hid (fun W (hb:Below w.heap.size w W) B hB=>tForm_is (hv'.below hb) B hB)
 have KH:=Lib.hid (fun (hY:frmT N D=true) W (hb:Below w.heap.size w W) B hB=>gHas_is (h.below hb) (hN.below hb).1 (by have:=(frmT_of hY).1;omega) B hB)
 obtain ⟨bp,rfl⟩:=h.ptr
 unfold takesT at hB
 generalize s.F.length=z at KU KH hB
 obtain ⟨n,hn⟩:∃ n,n=N.length:=⟨_,rfl⟩
 obtain ⟨m,hm⟩:∃ m,m=D.length:=⟨_,rfl⟩
 rw[<- hn,<- hm] at KF
 rw[<- hn] at KH
 rw[<- hn,<- hm]
 have hbx:=below_box w (.cells #[.int .u32 q,.slice no n nc,.slice ao m dc] 193)
 have hnx:=heap_alloc_new w (.cells #[.int .u32 q,.slice no n nc,.slice ao m dc] 193)
 clear hN hD hn hm hv' h
 go_enter Tryz.func161,Tryz.ntmps161
 go_upto_region 1 with (fail)
 generalize w.alloc (.cells #[.int .u32 q,.slice no n nc,.slice ao m dc] 193)=u at hbx hnx |-
 have KU1:=Lib.hid (KU.out _ hbx)
 have KF1:=Lib.hid (KF.out _ hbx)
 have d0:u.cell? ⟨w.heap.size,0,none⟩=some (.int .u32 q):=by rw[cell_of_row _ _ _ _ _ _ hnx];rfl
 have d1:u.cell? ⟨w.heap.size,1,none⟩=some (.slice no n nc):=by rw[cell_of_row _ _ _ _ _ _ hnx];rfl
 have d2:u.cell? ⟨w.heap.size,2,none⟩=some (.slice ao m dc):=by rw[cell_of_row _ _ _ _ _ _ hnx];rfl
 have hzu:w.heap.size<u.heap.size:=(Array.getElem?_eq_some_iff.1 hnx).1
 have C1:=Lib.hid (fun W (h:Below u.heap.size u W)=>(h.cell (p:=⟨w.heap.size,1,none⟩) hzu).trans d1)
 have HBT:=Lib.hid (fun W (h:Below u.heap.size u W)=>hbx.trans (h.mono hbx.size))
 clear hnx KU KF hzu hbx
 generalize decide (64<=z)=X at hB KU1
 obtain ⟨Y,hFX⟩:∃ Y,frmT N D=Y:=⟨_,rfl⟩
 obtain ⟨Z,hHX⟩:∃ Z,hasN z N=Z:=⟨_,rfl⟩
 rw[hFX,hHX] at hB
 rw[hFX] at KF1
 have KH2:=Lib.hid (fun hY W hb=>KH.out hY W hb Z hHX)
 have KU2:=Lib.hid (KU1.out X rfl)
 have KF2:=Lib.hid (KF1.out Y rfl)
 have HFX:=Lib.hid hFX
 clear KU1 KF1 KH hFX hHX
 cases X
 · rw[Bool.false_and] at hB
   subst hB
   go_wp2_with (go_at_call 173;(with_reducible refine KU2.out.mono ?_);rintro e w2 ⟨rfl,rfl⟩)
   go_ret
   exact ⟨rfl,HBT.out _ (Below.refl _ _)⟩
 · cases Y
   · rw[Bool.false_and,Bool.true_and] at hB
     subst hB
     go_wp2_with (first
      |(go_at_call 173;(with_reducible refine KU2.out.mono ?_);rintro e w2 ⟨rfl,rfl⟩)
      |(go_at_call 190;(with_reducible refine KF2.out.mono ?_);rintro e w3 ⟨rfl,hb3⟩))
     go_ret
     exact ⟨rfl,HBT.out _ hb3⟩
   · rw[Bool.true_and,Bool.true_and] at hB
     subst hB
     go_wp2_with (first
      |(go_at_call 173;(with_reducible refine KU2.out.mono ?_);rintro e w2 ⟨rfl,rfl⟩)
      |(go_at_call 190;(with_reducible refine KF2.out.mono ?_);rintro e w3 ⟨rfl,hb3⟩
        have e1:=C1.out _ hb3
        have HB3:=Lib.hid (HBT.out _ hb3)
        clear hb3)
      |(go_at_call 175;(with_reducible refine (KH2.out HFX.out _ HB3.out).mono ?_);rintro e w4 ⟨rfl,rfl⟩))
     go_ret
     exact ⟨rfl,HB3.out⟩
end
theorem Chg.of_wrote1 {w w':World}{g:Nat} (h:Wrote w w' g):Chg (fun b=>b=g) (fun b=>b=g) w w':=
 ⟨h.1,h.2.1,h.2.2.1,Nat.le_of_eq h.2.2.2.1.symm,fun k _ hn=>⟨h.2.2.2.2 k hn,hn⟩⟩
def RowA (w:World) (g:Nat) (P:Nat->Prop) (n:Nat) (D:List (List Int)) (k:Nat):Prop:=
 ∃ vs:List Value,vs.length=n/\w.heap[g]? =some (.cells vs.toArray 49 (0,0))/\∀ j,j<k->BSl w (vs.getD j undef) (D.getD j [])/\Apt P (vs.getD j undef)/\Apt (fun b=>b=g) (vs.getD j undef)
theorem RowA.make (w:World) (P:Nat->Prop) (n:Nat) (D:List (List Int)):RowA (w.alloc (.cells (Array.replicate n (Value.slice none 0 0)) 49)) w.heap.size P n D 0:=
 ⟨List.replicate n (Value.slice none 0 0),List.length_replicate,by rw[heap_alloc_new];simp,fun j hj=>absurd hj (Nat.not_lt_zero _)⟩
theorem RowA.row {w:World}{g n:Nat}{P:Nat->Prop}{D:List (List Int)}{k:Nat} (h:RowA w g P n D k):∃ vs:List Value,vs.length=n/\w.heap[g]? =some (.cells vs.toArray 49 (0,0)):=by
 obtain ⟨vs,h1,h2,_⟩:=h
 exact ⟨vs,h1,h2⟩
theorem RowA.below {w w':World}{g n:Nat}{P:Nat->Prop}{D:List (List Int)}{k:Nat} (h:RowA w g P n D k) (hb:Below w.heap.size w w'):RowA w' g P n D k:=by
 obtain ⟨vs,h1,h2,h3⟩:=h
 have hg:g<w.heap.size:=(Array.getElem?_eq_some_iff.1 h2).1
 exact ⟨vs,h1,(hb.block g hg).trans h2,fun j hj=>⟨(h3 j hj).1.below hb,(h3 j hj).2⟩⟩
theorem RowA.set {w:World}{g n:Nat}{P:Nat->Prop}{D:List (List Int)}{k:Nat} (h:RowA w g P n D k) (hk:k<n) {y:Value} (hy:BSl w y (D.getD k [])) (h1:Apt P y) (h2:Apt (fun b=>b=g) y):RowA (w.setCell ⟨g,k,none⟩ y) g P n D (k+1):=by
 obtain ⟨vs,e1,e2,e3⟩:=h
 have hc:=Chg.of_wrote1 (Wrote.setCell w g k y)
 refine ⟨vs.set k y,by rw[List.length_set];exact e1,bb_set e2 k y,fun j hj=>?_⟩
 by_cases e:j=k
 · subst e
   have e4:(vs.set j y).getD j undef=y:=by simp[List.getD_eq_getElem?_getD,e1,hk]
   rw[e4]
   exact ⟨(hy.chg h2 hc).1,h1,h2⟩
 · have e4:(vs.set k y).getD j undef=vs.getD j undef:=by
    rw[List.getD_eq_getElem?_getD,List.getElem?_set_ne (by omega),<- List.getD_eq_getElem?_getD]
   rw[e4]
   obtain ⟨m1,m2,m3⟩:=e3 j (by omega)
   exact ⟨(m1.chg m3 hc).1,m2,m3⟩
theorem RowA.done {w:World}{g n:Nat}{P:Nat->Prop}{D:List (List Int)} (h:RowA w g P n D n) (hD:D.length=n) (hP:¬ P g):BBa w P (.slice (some ⟨g,0,none⟩) n n) D:=by
 obtain ⟨vs,h1,h2,h3⟩:=h
 subst hD
 refine .inr ⟨_,D.length,rfl,Nat.le_refl _,fun j hj=>⟨⟨(Array.getElem?_eq_some_iff.1 h2).1,hP⟩,rfl,vs.getD j undef,?_,(h3 j hj).1,(h3 j hj).2.1⟩⟩
 show w.cell? ⟨g,0+j,none⟩=_
 rw[Nat.zero_add,cell_of_row _ _ _ _ _ _ h2]
 simp[List.getD_eq_getElem?_getD,show j<vs.length by omega]
section
variable {w:World}{P:Nat->Prop}{p:Value}{s:DS}
theorem gJour_of (h:Dk w P p s) (h64:64<=s.F.length) (hd:s.dn=false):
 Calls Tryz.prog 138 #[p] w fun e w'=>∃ ao cap,e=.returned (.tuple #[.slice ao 40 cap,.int .i64 0])/\BBa w' P (.slice ao 40 cap) (jour s.vis)/\Below w.heap.size w w':=by
 have hlt:=fun k hk=>h.lt k hk
 have KU:=Lib.hid (gUsable_is h true (decide_eq_true h64))
 have hjl:(jour s.vis).length=40:=jour_length (by rw[DS.vis_length];omega)
 have KR:=Lib.hid (fun W (hb:Below w.heap.size w W) (k:Nat) (hk:k<40)=>(kRead (h.below hb) (3+k) (by omega) hd))
 have HJ:=Lib.hid (fun (k:Nat) (hk:k<40)=>jour_get s.vis k hk)
 have HDN:=Lib.hid (fun W (hr:RowA W w.heap.size P 40 (jour s.vis) 40)=>hr.done hjl (fun hp=>Nat.lt_irrefl _ (hlt _ hp)))
 obtain ⟨bp,rfl⟩:=h.ptr
 obtain ⟨D,hD⟩:∃ D,D=jour s.vis:=⟨_,rfl⟩
 rw[<- hD] at HJ HDN |-
 have HLT:=Lib.hid hlt
 have hbx:=below_box w (.cells (Array.replicate 40 (Value.slice none 0 0)) 49)
 have hr0:=RowA.make w P 40 D
 clear h h64 hd hjl hD hlt
 go_enter Tryz.func138,Tryz.ntmps138
 go_wp2_with (first
  |(go_at_call 173;(with_reducible refine KU.out.mono ?_);rintro e w2 ⟨rfl,rfl⟩)
  |(at_make;refine wpList_make_bb w rfl _ _ rfl (40:Int) 40 rfl rfl rfl (by omega) ?_))
 generalize w.alloc (.cells (Array.replicate 40 (Value.slice none 0 0)) 49)=w1 at hbx hr0 |-
 have HR0:=Lib.hid hr0
 have HBX:=Lib.hid hbx
 obtain ⟨g,hg⟩:∃ g,g=w.heap.size:=⟨_,rfl⟩
 rw[<- hg] at HR0 HDN |-
 have HG:=Lib.hid hg
 clear hr0 hbx hg
 go_loopw [14] (fun i wr=>∃ k:Nat,k<=40/\i=.int .i64 k/\Hid (RowA wr g P 40 D k)/\Hid (Below w.heap.size w wr)) (fun i _=>40-(intOf i).toNat)
 case atStart=>exact ⟨0,by omega,rfl,HR0,HBX⟩
 case round=>
  obtain ⟨k,hk,rfl,HR,HB⟩:=hrel
  clear HR0 HBX
  by_cases hlt:k<40
  · have KC:=Lib.hid (KR.out _ HB.out k hlt)
    have ek:(k:Int)<40:=by omega
    have e3:((3+k:Nat):Int)=3+(k:Int):=by push_cast;rfl
    rw[e3] at KC
    clear e3
    go_wp2_with (go_at_call 50;(with_reducible refine KC.out.mono ?_);rintro e w2 ⟨y,rfl,hoy,hb2,hy⟩
                 have hsz:=HB.out.size
                 have hr2:=HR.out.below hb2
                 have HA1:Hid (Apt P y):=Lib.hid (by rw[hy];exact Apt.new (fun hp=>by have:=HLT.out _ hp;omega))
                 have HA2:Hid (Apt (fun b=>b=g) y):=Lib.hid (by
                  rw[hy]
                  refine Apt.new (fun hp=>?_)
                  obtain ⟨vs,_,hvr⟩:=HR.out.row
                  have:=(Array.getElem?_eq_some_iff.1 hvr).1
                  omega)
                 rw[<- HJ.out k hlt] at hoy
                 obtain ⟨yo,yc,hys,_⟩:=hoy.shape
                 have HY:=Lib.hid hoy
                 subst hys
                 generalize (D.getD k []).length=yl at HY HA1 HA2 |-
                 clear hy hoy
                 have HR2:=Lib.hid hr2
                 obtain ⟨vs2,hvl2,hvr2⟩:=hr2.row
                 have hf2:=bb_free hvr2 k
                 have hc2:∃ z,w2.cell? ⟨g,k,none⟩=some z:=⟨vs2[k]'(by omega),by rw[cell_of_row _ _ _ _ _ _ hvr2];simp[hvl2,hlt]⟩
                 obtain ⟨z,hz⟩:=hc2
                 have HB2:=Lib.hid (HB.out.trans (hb2.mono HB.out.size))
                 clear hr2 hvl2 hvr2 hb2 hsz)
    go_roundw
    case rel=>exact ⟨k+1,by omega,by go_num,HR2.out.set hlt HY.out HA1.out HA2.out,(HB2.out.trans ((Wrote.setCell w2 g k _).below (by rw[HG.out];exact Nat.le_refl _)))⟩
    case measure=>simp[intOf];omega
  · obtain rfl:k=40:=by omega
    go_wp2
    go_ret2
    exact ⟨_,_,rfl,HDN.out _ HR.out,HB.out⟩
end
theorem isTxn_one {L:List (List Int)}{q q':Int}{N N':List Int}{D D':List (List Int)} (h:isTxn L q N D) (h':isTxn L q' N' D'):q=q'/\N=N'/\D=D':=by
 obtain ⟨rfl,rfl⟩:=isHead_one h.1.2 h'.1.2
 exact ⟨rfl,rfl,h.2.2.2.1.symm.trans h'.2.2.2.1⟩
theorem isTxn_frm {L:List (List Int)}{q:Int}{N:List Int}{D:List (List Int)} (h:isTxn L q N D):frmT N D=true/\0<=q/\q<4294967296:=by
 obtain ⟨⟨h0,hN,⟨q0,q1⟩,_⟩,hl,_,hD,hw⟩:=h
 refine ⟨?_,q0,q1⟩
 rw[frmT_parts,hN,hw,decide_eq_true]
 · rfl
 · rw[<- hD,List.length_take,List.length_drop];omega
def holdsT (n:Nat) (L:List (List Int)) (q:Int) (N:List Int) (D:List (List Int)):Prop:=isTxn L q N D/\hasN n N=true
section
variable {w:World}{P:Nat->Prop}{p:Value}{s:DS}
theorem gStored_yes (h:Dk w P p s) {v:Value}{L:List (List Int)} (hs:BBSl w v L) (hL:L.length<=1000000) {q:Int}{N:List Int}{D:List (List Int)} (ht:holdsT s.F.length L q N D):
 Calls Tryz.prog 139 #[p,v] w fun e w'=>∃ vN vD,e=.returned (.tuple #[.agg #[.int .u32 q,vN,vD],.bool true])/\IR w' 0 vN N/\BBR w' 0 vD D/\Below w.heap.size w w':=by
 obtain ⟨ht,hh⟩:=ht
 have h37:N.length<=37:=(frmT_of (isTxn_frm ht).1).1
 have hbx:=below_box w (.cells #[.int .u32 0,.slice none 0 0,.slice none 0 0] 193)
 have hnx:=heap_alloc_new w (.cells #[.int .u32 0,.slice none 0 0,.slice none 0 0] 193)
 have KU:=Lib.hid (fun W (hb:Below w.heap.size w W)=>show Calls Tryz.prog 174 #[v] W fun e w'=>∃ vN vD,e=.returned (.tuple #[.agg #[.int .u32 q,vN,vD],.bool true])/\IR w' 0 vN N/\BBR w' 0 vD D/\Below W.heap.size W w' from
  (tUnpack_any (hs.below hb) hL).mono fun e w' ⟨hb,hc⟩=>by
    rcases hc with ⟨q',N',D',vN,vD,ht',he,h1,h2⟩| ⟨hno,_⟩
    · obtain ⟨rfl,rfl,rfl⟩:=isTxn_one ht ht'
      exact ⟨vN,vD,he,h1,h2,hb⟩
    · exact absurd ht (hno _ _ _))
 have KH:=Lib.hid (fun W (hb:Below w.heap.size w W) vN (hN:IR W 0 vN N)=>gHas_is (h.below hb) hN.sl (by omega) true hh)
 obtain ⟨bp,rfl⟩:=h.ptr
 obtain ⟨vo,vc,rfl,_⟩:=hs.shape
 generalize L.length=y at KU |-
 clear h hs hL ht hh h37
 go_enter Tryz.func139,Tryz.ntmps139
 go_upto_region 1 with (fail)
 have hzu:w.heap.size<(w.alloc (.cells #[.int .u32 0,.slice none 0 0,.slice none 0 0] 193)).heap.size:=by simp
 generalize w.alloc (.cells #[.int .u32 0,.slice none 0 0,.slice none 0 0] 193)=w1 at hbx hnx hzu |-
 go_wp2_with (first
  |(go_at_call 174;(with_reducible refine (KU.out _ hbx).mono ?_);rintro e w2 ⟨vN,vD,rfl,hN2,hD2,hb2⟩
    obtain ⟨_,no,nc,rfl,_⟩:=hN2.isc
    obtain ⟨ao,dc,rfl,_⟩:=hD2.sl.shape
    have hns:=heap_alloc_new w2 (.cells #[.int .u32 0,.slice none 0 0,.slice none 0 0] 193)
    have hbs:=below_box w2 (.cells #[.int .u32 0,.slice none 0 0,.slice none 0 0] 193)
    have HN3:=Lib.hid (hN2.below hbs)
    have HD3:=Lib.hid (hD2.below hbs)
    have HB2:=Lib.hid hb2
    generalize hnn:N.length=n at HN3 |-
    generalize hmm:D.length=m at HD3 |-
    clear hN2 hD2 hnn hmm)
  |(with_reducible refine wpList_store_t3 rfl 193 sizeT (.tmp 6) (.tmp 11) rfl w2.heap.size rfl _ _ _ _ _ _ rfl rfl rfl rfl _ hns ?_;intro w4 hw4 hr4
    have hb4:=hbs.trans (hw4.below (Nat.le_refl _))
    have hb14:=HB2.out.trans (hb4.mono HB2.out.size)
    have hr0:=hold9 hnx hb14
    have HB4:=Lib.hid (hbx.trans (hb14.mono hbx.size))
    have x0:w4.cell? ⟨w2.heap.size,0,none⟩=some (.int .u32 q):=by rw[cell_of_row _ _ _ _ _ _ hr4];rfl
    have x1:w4.cell? ⟨w2.heap.size,1,none⟩=some (.slice no n nc):=by rw[cell_of_row _ _ _ _ _ _ hr4];rfl
    have x2:w4.cell? ⟨w2.heap.size,2,none⟩=some (.slice ao m dc):=by rw[cell_of_row _ _ _ _ _ _ hr4];rfl
    have HN4:=Lib.hid (HN3.out.wrote hw4 hns (by decide))
    have HD4:=Lib.hid (HD3.out.wrote hw4 (Nat.zero_le _) hns (by decide) (by decide))
    clear hns hbs hw4 hb4 hb14 HN3 HD3 hr4)
  |(go_at_call 175;(with_reducible refine (KH.out _ HB4.out _ HN4.out).mono ?_);rintro e w5 ⟨rfl,rfl⟩)
  |(with_reducible refine wpList_store_t3 rfl 193 sizeT (.tmp 4) (.tmp 23) rfl w.heap.size rfl _ _ _ _ _ _ rfl rfl rfl rfl _ hr0 ?_;intro w9 hw9 hr9))
 refine bodyPost_ret (ret_cell_t3 rfl Tryz.underlying193 sizeT _ _ w.heap.size _ _ _ _ _ rfl hr9 rfl) rfl ⟨_,_,rfl,?_,?_,HB4.out.trans (hw9.below (Nat.le_refl _))⟩
 · exact HN4.out.wrote hw9 hr0 (by decide)
 · exact HD4.out.wrote hw9 (Nat.zero_le _) hr0 (by decide) (by decide)
theorem gStored_no (h:Dk w P p s) {v:Value}{L:List (List Int)} (hs:BBSl w v L) (hL:L.length<=1000000) (hno:∀ q N D,¬ holdsT s.F.length L q N D):
 Calls Tryz.prog 139 #[p,v] w fun e w'=>e=.returned (.tuple #[.agg #[.int .u32 0,.slice none 0 0,.slice none 0 0],.bool false])/\Below w.heap.size w w':=by
 by_cases hex:∃ q N D,isTxn L q N D
 · obtain ⟨q,N,D,ht⟩:=hex
   have hh:hasN s.F.length N=false:=by
    cases e:hasN s.F.length N
    · rfl
    · exact absurd ⟨ht,e⟩ (hno q N D)
   have h37:N.length<=37:=(frmT_of (isTxn_frm ht).1).1
   have hbx:=below_box w (.cells #[.int .u32 0,.slice none 0 0,.slice none 0 0] 193)
   have hnx:=heap_alloc_new w (.cells #[.int .u32 0,.slice none 0 0,.slice none 0 0] 193)
   have KU:=Lib.hid (fun W (hb:Below w.heap.size w W)=>show Calls Tryz.prog 174 #[v] W fun e w'=>∃ vN vD,e=.returned (.tuple #[.agg #[.int .u32 q,vN,vD],.bool true])/\IR w' 0 vN N/\BBR w' 0 vD D/\Below W.heap.size W w' from
    (tUnpack_any (hs.below hb) hL).mono fun e w' ⟨hb,hc⟩=>by
      rcases hc with ⟨q',N',D',vN,vD,ht',he,h1,h2⟩| ⟨hno,_⟩
      · obtain ⟨rfl,rfl,rfl⟩:=isTxn_one ht ht'
        exact ⟨vN,vD,he,h1,h2,hb⟩
      · exact absurd ht (hno _ _ _))
   have KH:=Lib.hid (fun W (hb:Below w.heap.size w W) vN (hN:IR W 0 vN N)=>gHas_is (h.below hb) hN.sl (by omega) false hh)
   obtain ⟨bp,rfl⟩:=h.ptr
   obtain ⟨vo,vc,rfl,_⟩:=hs.shape
   generalize L.length=y at KU |-
   clear h hs hL ht hh h37 hno
   go_enter Tryz.func139,Tryz.ntmps139
   go_upto_region 1 with (fail)
   have hzu:w.heap.size<(w.alloc (.cells #[.int .u32 0,.slice none 0 0,.slice none 0 0] 193)).heap.size:=by simp
   generalize w.alloc (.cells #[.int .u32 0,.slice none 0 0,.slice none 0 0] 193)=w1 at hbx hnx hzu |-
   go_wp2_with (first
    |(go_at_call 174;(with_reducible refine (KU.out _ hbx).mono ?_);rintro e w2 ⟨vN,vD,rfl,hN2,hD2,hb2⟩
      obtain ⟨_,no,nc,rfl,_⟩:=hN2.isc
      obtain ⟨ao,dc,rfl,_⟩:=hD2.sl.shape
      have hns:=heap_alloc_new w2 (.cells #[.int .u32 0,.slice none 0 0,.slice none 0 0] 193)
      have hbs:=below_box w2 (.cells #[.int .u32 0,.slice none 0 0,.slice none 0 0] 193)
      have HN3:=Lib.hid (hN2.below hbs)
      have HB2:=Lib.hid hb2
      generalize hnn:N.length=n at HN3 |-
      generalize hmm:D.length=m at |-
      clear hN2 hD2 hnn hmm)
    |(with_reducible refine wpList_store_t3 rfl 193 sizeT (.tmp 6) (.tmp 11) rfl w2.heap.size rfl _ _ _ _ _ _ rfl rfl rfl rfl _ hns ?_;intro w4 hw4 hr4
      have hb4:=hbs.trans (hw4.below (Nat.le_refl _))
      have hb14:=HB2.out.trans (hb4.mono HB2.out.size)
      have hr0:=hold9 hnx hb14
      have HB4:=Lib.hid (hbx.trans (hb14.mono hbx.size))
      have x1:w4.cell? ⟨w2.heap.size,1,none⟩=some (.slice no n nc):=by rw[cell_of_row _ _ _ _ _ _ hr4];rfl
      have HN4:=Lib.hid (HN3.out.wrote hw4 hns (by decide))
      clear hns hbs hw4 hb4 hb14 HN3 hr4)
    |(go_at_call 175;(with_reducible refine (KH.out _ HB4.out _ HN4.out).mono ?_);rintro e w5 ⟨rfl,rfl⟩)
    |(with_reducible refine wpList_store_t3 rfl 193 sizeT (.tmp 4) (.tmp 22) rfl w.heap.size rfl _ _ _ _ _ _ rfl rfl rfl rfl _ hr0 ?_;intro w9 hw9 hr9))
   refine bodyPost_ret (ret_cell_t3 rfl Tryz.underlying193 sizeT _ _ w.heap.size _ _ _ _ _ rfl hr9 rfl) rfl ⟨rfl,HB4.out.trans (hw9.below (Nat.le_refl _))⟩
 · have hn2:∀ q N D,¬ isTxn L q N D:=fun q N D ht=>hex ⟨q,N,D,ht⟩
   have hbx:=below_box w (.cells #[.int .u32 0,.slice none 0 0,.slice none 0 0] 193)
   have hnx:=heap_alloc_new w (.cells #[.int .u32 0,.slice none 0 0,.slice none 0 0] 193)
   have KU:=Lib.hid (fun W (hb:Below w.heap.size w W)=>show Calls Tryz.prog 174 #[v] W fun e w'=>e=.returned (.tuple #[.agg #[.int .u32 0,.slice none 0 0,.slice none 0 0],.bool false])/\Below W.heap.size W w' from
    (tUnpack_any (hs.below hb) hL).mono fun e w' ⟨hb,hc⟩=>by
      rcases hc with ⟨q',N',D',vN,vD,ht',he,h1,h2⟩| ⟨_,he⟩
      · exact absurd ht' (hn2 _ _ _)
      · exact ⟨he,hb⟩)
   obtain ⟨bp,rfl⟩:=h.ptr
   obtain ⟨vo,vc,rfl,_⟩:=hs.shape
   generalize L.length=y at KU |-
   clear h hs hL hno hn2 hex
   go_enter Tryz.func139,Tryz.ntmps139
   go_upto_region 1 with (fail)
   generalize w.alloc (.cells #[.int .u32 0,.slice none 0 0,.slice none 0 0] 193)=w1 at hbx hnx |-
   go_wp2_with (first
    |(go_at_call 174;(with_reducible refine (KU.out _ hbx).mono ?_);rintro e w2 ⟨rfl,hb2⟩
      have hns:=heap_alloc_new w2 (.cells #[.int .u32 0,.slice none 0 0,.slice none 0 0] 193)
      have hbs:=below_box w2 (.cells #[.int .u32 0,.slice none 0 0,.slice none 0 0] 193)
      have HB2:=Lib.hid hb2)
    |(with_reducible refine wpList_store_t3 rfl 193 sizeT (.tmp 6) (.tmp 11) rfl w2.heap.size rfl _ _ _ _ _ _ rfl rfl rfl rfl _ hns ?_;intro w4 hw4 hr4
      have hb4:=hbs.trans (hw4.below (Nat.le_refl _))
      have hb14:=HB2.out.trans (hb4.mono HB2.out.size)
      have hr0:=hold9 hnx hb14
      have HB4:=Lib.hid (hbx.trans (hb14.mono hbx.size))
      clear hns hbs hw4 hb4 hb14 hr4)
    |(with_reducible refine wpList_store_t3 rfl 193 sizeT (.tmp 4) (.tmp 22) rfl w.heap.size rfl _ _ _ _ _ _ rfl rfl rfl rfl _ hr0 ?_;intro w9 hw9 hr9))
   refine bodyPost_ret (ret_cell_t3 rfl Tryz.underlying193 sizeT _ _ w.heap.size _ _ _ _ _ rfl hr9 rfl) rfl ⟨rfl,HB4.out.trans (hw9.below (Nat.le_refl _))⟩
end
theorem runA_cons (a:PA) (A:List PA) (s:DS):runA (a :: A) s=if s.ok=true then runA A (a.run s) else (2,s.pay):=rfl
theorem runA_append:∀ (A B:List PA) (s:DS),runA (A ++ B) s=if (runA A s).1=0 then runA B (runA A s).2 else runA A s
 |[],B,s=>by
  show runA B s=if (0:Int)=0 then runA B s else _
  rw[if_pos rfl]
 |a :: A,B,s=>by
  rw[List.cons_append,runA_cons,runA_cons]
  by_cases h:s.ok=true
  · rw[if_pos h,if_pos h];exact runA_append A B _
  · rw[if_neg h,if_neg h,if_neg (by show ¬ (2:Int)=0;decide)]
theorem runA_next {X:List PA}{a:PA}{s:DS} (h:(runA X s).1=0) (hok:(runA X s).2.ok=true):runA (X ++ [a]) s=(0,a.run (runA X s).2):=by
 rw[runA_append,if_pos h,runA_cons,if_pos hok]
 rfl
theorem runA_stop {X Y:List PA}{a:PA}{s:DS} (h:(runA X s).1=0) (hok:(runA X s).2.ok=false):runA (X ++ a :: Y) s=(2,(runA X s).2.pay):=by
 rw[runA_append,if_pos h,runA_cons,if_neg (by rw[hok];decide)]
theorem runA_len:∀ (A:List PA) (s:DS),(runA A s).2.F.length=s.F.length/\(runA A s).2.U.length<=s.U.length+A.length
 |[],s=>⟨rfl,Nat.le_refl _⟩
 |a :: A,s=>by
  unfold runA
  by_cases h:s.ok=true
  · rw[if_pos h]
    obtain ⟨h1,h2⟩:=runA_len A (a.run s)
    cases a with
    |w n l=>
     have e1:(PA.run s (.w n l)).F.length=s.F.length:=rfl
     have e2:(PA.run s (.w n l)).U.length=s.U.length+1:=by show (s.U ++ [(n,l)]).length=_;simp
     exact ⟨h1.trans e1,by simp only[List.length_cons];omega⟩
    |f=>
     have e1:(PA.run s .f).F.length=s.F.length:=DS.vis_length s
     have e2:(PA.run s .f).U.length=0:=rfl
     exact ⟨h1.trans e1,by simp only[List.length_cons];omega⟩
  · rw[if_neg h]
    exact ⟨rfl,Nat.le_add_right _ _⟩
def RunQ (A:List PA) (w:World) (P:Nat->Prop) (p:Value) (s:DS) (e:Ending) (w':World):Prop:=
 e=.returned (.int .i64 (runA A s).1)/\∃ P',Dk w' P' p (runA A s).2/\Chg P P' w w'
theorem RunQ.stop {X Y:List PA}{a:PA}{w W:World}{P P':Nat->Prop}{p:Value}{s:DS} (h:(runA X s).1=0) (hok:(runA X s).2.ok=false) (hd:Dk W P' p (runA X s).2.pay) (hc:Chg P P' w W):RunQ (X ++ a :: Y) w P p s (.returned (.int .i64 2)) W:=by
 unfold RunQ
 rw[runA_stop h hok]
 exact ⟨rfl,P',hd,hc⟩
theorem RunQ.done {X:List PA}{w W:World}{P P':Nat->Prop}{p:Value}{s:DS} (h:(runA X s).1=0) (hd:Dk W P' p (runA X s).2) (hc:Chg P P' w W):RunQ X w P p s (.returned (.int .i64 0)) W:=by
 unfold RunQ
 rw[h]
 exact ⟨rfl,P',hd,hc⟩
theorem Chg.cell {P P':Nat->Prop}{w w':World} (h:Chg P P' w w') {g i:Nat} (hg:g<w.heap.size) (hn:¬ P g):w'.cell? ⟨g,i,none⟩=w.cell? ⟨g,i,none⟩:=
 World.cell?_of_block (a:=⟨g,i,none⟩) (h.keep g hg hn).1
theorem homeA_get (N:List Int) (D:List (List Int)) (k:Nat) (hk:k<N.length):homeA N D=(homeA N D).take k ++ .w (N.getD k 0).toNat (D.getD k []) :: (homeA N D).drop (k+1)/\(homeA N D).take (k+1)=(homeA N D).take k ++ [.w (N.getD k 0).toNat (D.getD k [])]:=by
 have hl:k<(homeA N D).length:=by rw[homeA_length];exact hk
 have e:(homeA N D)[k]=.w (N.getD k 0).toNat (D.getD k []):=by simp[homeA,homeW]
 refine ⟨?_,?_⟩
 · rw[<- e,List.getElem_cons_drop,List.take_append_drop]
 · rw[List.take_succ_eq_append_getElem hl,e]
section
variable {w:World}{P:Nat->Prop}{p:Value}{s:DS}
set_option maxHeartbeats 1000000 in
theorem gHome_yes (h:Dk w P p s) {v:Value}{q:Int}{N:List Int}{D:List (List Int)} (hv:TxVa w P v q N D) (hB:takesT s.F.length N D=true) (hU:s.U.length<=900000):
 Calls Tryz.prog 126 #[p,v] w (RunQ (homeA N D) w P p s):=by
 have hv':=hv
 obtain ⟨no,nc,ao,dc,rfl,hN,hD⟩:=hv
 have hB':=hB
 unfold takesT at hB'
 rw[Bool.and_eq_true,Bool.and_eq_true] at hB'
 obtain ⟨_,hF,hH⟩:=hB'
 obtain ⟨f1,f2,f3⟩:=frmT_of hF
 have hH':=(hasN_iff _ _).1 hH
 have KT:=Lib.hid (fun W (hb:Below w.heap.size w W)=>gTakes_is (h.below hb) (hv'.v.below hb) true hB)
 have hlt:=fun k hk=>h.lt k hk
 have HD0:=Lib.hid (fun W (hb:Below w.heap.size w W)=>h.below hb)
 have hlen:=fun k=>runA_len ((homeA N D).take k) s
 have KW:=Lib.hid (fun k (hk:k<N.length) W Pk (hd:Dk W Pk p (runA ((homeA N D).take k) s).2) v (hv:BSl W v (D.getD k []))=>kWrite hd (N.getD k 0).toNat (by
  have h1:=hH' k hk
  have h2:=(f3 k hk).1
  have h3:=(hlen k).1
  omega) hv (f3 k hk).2.1 (by
  have h1:=(hlen k).2
  rw[List.length_take,homeA_length] at h1
  omega))
 have HNK:=Lib.hid (fun k (hk:k<N.length)=>show N.getD k 0=((N.getD k 0).toNat:Int) by have:=(f3 k hk).1;omega)
 have HL:=Lib.hid (fun k (hk:k<N.length)=>(f3 k hk).2.1)
 have HNC:=Lib.hid (fun W P' (hc:Chg P P' w W)=>(hN.1.1.chg hN.2 hc).1.open')
 have HDC:=Lib.hid (fun W P' (hc:Chg P P' w W)=>(hD.chg hc).sl.open')
 have HG:=Lib.hid (fun k hk=>homeA_get N D k hk)
 have HFULL:Hid ((homeA N D).take N.length=homeA N D):=Lib.hid (List.take_of_length_le (by rw[homeA_length];exact Nat.le_refl _))
 obtain ⟨bp,rfl⟩:=h.ptr
 obtain ⟨A,hA⟩:∃ A,A=homeA N D:=⟨_,rfl⟩
 rw[<- hA] at KW HG HFULL |-
 obtain ⟨n,hn⟩:∃ n,n=N.length:=⟨_,rfl⟩
 have hmn:D.length=n:=f2.trans hn.symm
 rw[<- hn] at KT KW HNK HL HNC HG HFULL f1 |-
 rw[hmn] at KT HDC |-
 have hbx:=below_box w (.cells #[.int .u32 q,.slice no n nc,.slice ao n dc] 193)
 have hnx:=heap_alloc_new w (.cells #[.int .u32 q,.slice no n nc,.slice ao n dc] 193)
 clear h hN hD hv' hB hF hH hH' hlen f2 f3 hA hn hmn
 go_enter Tryz.func126,Tryz.ntmps126
 go_upto_region 1 with (fail)
 generalize w.alloc (.cells #[.int .u32 q,.slice no n nc,.slice ao n dc] 193)=u at hbx hnx |-
 have KT1:=Lib.hid (KT.out _ hbx)
 have d0:u.cell? ⟨w.heap.size,0,none⟩=some (.int .u32 q):=by rw[cell_of_row _ _ _ _ _ _ hnx];rfl
 have d1:u.cell? ⟨w.heap.size,1,none⟩=some (.slice no n nc):=by rw[cell_of_row _ _ _ _ _ _ hnx];rfl
 have d2:u.cell? ⟨w.heap.size,2,none⟩=some (.slice ao n dc):=by rw[cell_of_row _ _ _ _ _ _ hnx];rfl
 have hzu:w.heap.size<u.heap.size:=(Array.getElem?_eq_some_iff.1 hnx).1
 obtain ⟨d,hd⟩:∃ d,d=w.heap.size:=⟨_,rfl⟩
 have HND:Hid (¬ P d):=Lib.hid (fun hp=>by have:=hlt _ hp;omega)
 have HBX:=Lib.hid hbx
 rw[<- hd] at d0 d1 d2 hzu |-
 clear hnx KT hbx hlt hd
 go_wp2_with (go_at_call 161;(with_reducible refine KT1.out.mono ?_);rintro e w2 ⟨rfl,hb2⟩
              have HB2:=Lib.hid (HBX.out.trans (hb2.mono HBX.out.size))
              have g1:=(hb2.cell (p:=⟨d,1,none⟩) hzu).trans d1
              have g2:=(hb2.cell (p:=⟨d,2,none⟩) hzu).trans d2
              have hz2:=Nat.lt_of_lt_of_le hzu hb2.size
              clear hb2)
 have HC1:=Lib.hid (fun W P' (hc:Chg P P' w2 W)=>(hc.cell (i:=1) hz2 HND.out).trans g1)
 have HC2:=Lib.hid (fun W P' (hc:Chg P P' w2 W)=>(hc.cell (i:=2) hz2 HND.out).trans g2)
 have HCW:=Lib.hid (fun W P' (hc:Chg P P' w2 W)=>(Chg.of_below (P:=P) HB2.out).trans hc)
 have HST:Hid (∃ Pk,Dk w2 Pk (.pointer (some ⟨bp,0,none⟩)) (runA (A.take 0) s).2/\Chg P Pk w2 w2):=Lib.hid ⟨P,HD0.out _ HB2.out,Chg.refl P w2⟩
 clear g1 g2 hz2 d0 d1 d2 hzu KT1
 go_loopw [15] (fun i wr=>∃ k:Nat,k<=n/\i=.int .i64 k/\Hid ((runA (A.take k) s).1=0)/\Hid (∃ Pk,Dk wr Pk (.pointer (some ⟨bp,0,none⟩)) (runA (A.take k) s).2/\Chg P Pk w2 wr)) (fun i _=>n-(intOf i).toNat)
 case atStart=>exact ⟨0,by omega,rfl,Lib.hid (by rw[List.take_zero];rfl),HST⟩
 case round=>
  obtain ⟨k,hk,rfl,HR,HS⟩:=hrel
  clear HST
  obtain ⟨Pk,hdk,hck⟩:=HS.out
  by_cases hlt:k<n
  · have y1:=HC1.out _ _ hck
    have y2:=HC2.out _ _ hck
    obtain ⟨no',nc',e1,q1⟩:=HNC.out _ _ (HCW.out _ _ hck)
    obtain ⟨rfl,rfl⟩:=And.intro (Value.slice.inj e1).1 (Value.slice.inj e1).2.2
    obtain ⟨b1,o1,rfl,_,c1⟩:=q1 (by omega)
    have z1:=c1 k hlt
    rw[HNK.out k hlt] at z1
    obtain ⟨ao',dc',e2,_,q2⟩:=HDC.out _ _ (HCW.out _ _ hck)
    obtain ⟨rfl,rfl⟩:=And.intro (Value.slice.inj e2).1 (Value.slice.inj e2).2.2
    obtain ⟨b2,o2,rfl,_,c2⟩:=q2 (by omega)
    obtain ⟨x,z2,hx⟩:=c2 k hlt
    have KC:=Lib.hid (KW.out k hlt _ _ hdk _ hx)
    obtain ⟨xo,xc,rfl,_⟩:=hx.shape
    rw[HL.out k hlt] at z2 KC
    have ek:(k:Int)<(n:Int):=by omega
    have HGK:=Lib.hid (HG.out k hlt)
    obtain ⟨x1,hx1⟩:∃ x1,x1=(N.getD k 0).toNat:=⟨_,rfl⟩
    rw[<- hx1] at z1 KC HGK
    clear hx1
    have HCK:=Lib.hid hck
    clear e1 e2 q1 q2 c1 c2 hx hdk hck
    cases hok:(runA (A.take k) s).2.ok
    · rw[hok,if_neg Bool.false_ne_true,if_neg Bool.false_ne_true] at KC
      have HOK:=Lib.hid hok
      clear hok
      go_wp2_with (go_at_call 164;(with_reducible refine KC.out.mono ?_);rintro e w3 ⟨rfl,P3,hd3,hc3⟩)
      go_ret
      rw[HGK.out.1]
      exact RunQ.stop HR.out HOK.out hd3 (HCW.out _ _ (HCK.out.trans hc3))
    · rw[hok,if_pos rfl,if_pos rfl] at KC
      have HOK:=Lib.hid hok
      clear hok
      go_wp2_with (go_at_call 164;(with_reducible refine KC.out.mono ?_);rintro e w3 ⟨rfl,P3,hd3,hc3⟩)
      go_roundw
      case rel=>
       have e5:=HGK.out.2
       refine ⟨k+1,by omega,by go_num,Lib.hid ?_,Lib.hid ⟨P3,?_,HCK.out.trans hc3⟩⟩
       · rw[e5,runA_next HR.out HOK.out]
       · rw[e5,runA_next HR.out HOK.out];exact hd3
      case measure=>simp[intOf];omega
  · obtain rfl:k=n:=by omega
    clear HG
    go_wp2
    go_ret
    rw[HFULL.out] at HR HS
    obtain ⟨Pk,hdk,hck⟩:=HS.out
    exact RunQ.done HR.out hdk (HCW.out _ _ hck)
end
end Go.Proofs.YtaakepjgpnaecaaGreat
