/- What the law rests on: part 8. -/
import Derived.Lib.SliceRun
import Derived.Test.YtedabomlfcghoaaGreatKG7
set_option linter.unusedVariables false
namespace Go.Proofs.YtedabomlfcghoaaGreat
set_option maxRecDepth 100000
open Go.RowKit
def OutJ(i:Nat):Prop:=i<3\/43<=i
def Zat(N:List Int)(D:List (List Int)):List (Nat × List Int):=(List.range N.length).map fun j=>((N.getD j 0).toNat,D.getD j [])
theorem homeW_mem{N:List Int}{D:List (List Int)}{x:Nat × List Int}(h:x∈Zat N D):∃ j,j<N.length/\x=((N.getD j 0).toNat,D.getD j []):=by
 obtain⟨j,hj,rfl⟩:=List.mem_map.1 h;exact⟨j,List.mem_range.1 hj,rfl⟩
def farT(n:Nat)(N:List Int):Prop:=∀ j,j<N.length->OutJ (N.getD j 0).toNat/\(N.getD j 0).toNat<n
theorem homeW_one{N:List Int}{D:List (List Int)}(hF:frmT N D=true){x y:Nat × List Int}(hx:x∈Zat N D)(hy:y∈Zat N D)(h:x.1=y.1):x.2=y.2:=by
 obtain⟨_,_,hall⟩:=Zct hF;obtain⟨i,hi,rfl⟩:=homeW_mem hx;obtain⟨j,hj,rfl⟩:=homeW_mem hy;have hi':=hall i hi;have hj':=hall j hj;have e:N.getD i 0=N.getD j 0:=by
  have:(N.getD i 0).toNat=(N.getD j 0).toNat:=h;omega
 have eij:i=j:=by
  rcases Nat.lt_trichotomy i j with hlt|hlt|hlt
  . exact absurd e ((newT_iff N j hj).1 hj'.2.2 i hlt)
  . exact hlt
  . exact absurd e.symm ((newT_iff N i hi).1 hi'.2.2 j hlt)
 rw[eij]
theorem home_some{N:List Int}{D:List (List Int)}(hF:frmT N D=true){W:List (Nat × List Int)}(hW:∀ x∈W,x∈Zat N D)(F G:List (List Int))(i:Nat)(hi:i<G.length)(h0:F.getD i []=G.getD i []\/F.getD i []=(appU (Zat N D) G).getD i []):
 (appU W F).getD i []=G.getD i []\/(appU W F).getD i []=(appU (Zat N D) G).getD i []:=by
 by_cases hex:∃ x∈Zat N D,x.1=i
 . obtain⟨x,hx,hxi⟩:=hex
   have hall:∀ z∈Zat N D,z.1=i->z.2=x.2:=fun z hz hzi=>homeW_one hF hz hx (hzi.trans hxi.symm)
   have h1:=Zip (Zat N D) G i x.2 hi hall ⟨x,hx,hxi⟩;rw[h1];rcases appU_or W F i x.2 (fun z hz hzi=>hall z (hW z hz) hzi) with h|h
   . rw[h];rw[h1] at h0;exact h0
   . exact .inr h
 . have hno:∀ z∈Zat N D,z.1≠i:=fun z hz hzi=>hex ⟨z,hz,hzi⟩
   rw[Zbd W F i fun z hz=>hno z (hW z hz)];exact h0
theorem home_all{N:List Int}{D:List (List Int)}(hF:frmT N D=true)(F G:List (List Int))(hl:F.length=G.length)(i:Nat)(hi:i<G.length)(h0:F.getD i []=G.getD i []\/F.getD i []=(appU (Zat N D) G).getD i []):
 (appU (Zat N D) F).getD i []=(appU (Zat N D) G).getD i []:=by
 by_cases hex:∃ x∈Zat N D,x.1=i
 . obtain⟨x,hx,hxi⟩:=hex
   have hall:∀ z∈Zat N D,z.1=i->z.2=x.2:=fun z hz hzi=>homeW_one hF hz hx (hzi.trans hxi.symm)
   rw[Zip (Zat N D) G i x.2 hi hall ⟨x,hx,hxi⟩,Zip (Zat N D) F i x.2 (by omega) hall ⟨x,hx,hxi⟩]
 . have hno:∀ z∈Zat N D,z.1≠i:=fun z hz hzi=>hex ⟨z,hz,hzi⟩
   have e:=Zbd (Zat N D) G i hno;rw[Zbd _ F i hno,e];rcases h0 with h0|h0
   . exact h0
   . rw[h0,e]
theorem home_jour{N:List Int}{D:List (List Int)}{n:Nat}(hf:farT n N){W:List (Nat × List Int)}(hW:∀ x∈W,x∈Zat N D)(F:List (List Int))(h:43<=F.length):jour (appU W F)=jour F:=by
 refine jour_congr (by rw[Zaj];exact h) h fun i h1 h2=>Zbd W F i fun x hx e=>?_
 obtain⟨j,hj,rfl⟩:=homeW_mem (hW x hx);have:=(hf j hj).1;have e:(N.getD j 0).toNat=i:=e;rw[e] at this;rcases this with h|h <;> omega
def InvT(F:List (List Int))(q:Int)(N:List Int)(D G:List (List Int)):Prop:=
 F.length=G.length/\Zkd (jour F) q N D/\∀ i,OutJ i->i<G.length->F.getD i []=G.getD i []\/F.getD i []=(appU (Zat N D) G).getD i []
def InvN(F G:List (List Int)):Prop:=F.length=G.length/\F.getD 42 []=z256/\∀ i,OutJ i->i<G.length->F.getD i []=G.getD i []
theorem InvT.home{F:List (List Int)}{q:Int}{N:List Int}{D G:List (List Int)}(h:InvT F q N D G)(hF:frmT N D=true)(hf:farT G.length N)(hG:43<=G.length){W:List (Nat × List Int)}(hW:∀ x∈W,x∈Zat N D):InvT (appU W F) q N D G:=
 ⟨by rw[Zaj];exact h.1,by rw[home_jour hf hW F (by rw[h.1];exact hG)];exact h.2.1,fun i hi hl=>home_some hF hW F G i hl (h.2.2 i hi hl)⟩
theorem InvT.done{F:List (List Int)}{q:Int}{N:List Int}{D G:List (List Int)}(h:InvT F q N D G)(hF:frmT N D=true)(i:Nat)(hi:OutJ i)(hl:i<G.length):(appU (Zat N D) F).getD i []=(appU (Zat N D) G).getD i []:=
 home_all hF F G h.1 i hl (h.2.2 i hi hl)
def layA(q:Int)(W:List (Nat × List Int)):List PA:=[.f,.w 42 z256,.f] ++ (W.map fun y=>.w y.1 y.2) ++ [.f,.w 42 (Zal (endL q)),.f]
def layW(q:Int)(N:List Int)(D:List (List Int))(W:List (Nat × List Int)):Prop:=
 (∀ x∈W,3<=x.1/\x.1<42)/\∀ F:List (List Int),43<=F.length->(appU W F).getD 3 []=Zal (Zaz q N)/\∀ j,j<N.length->(appU W F).getD (4+j) []=D.getD j []
theorem Zec(F:List (List Int))(k i:Nat)(x:List Int)(h:k≠i):(F.set k x).getD i []=F.getD i []:=by
 rw[List.getD_eq_getElem?_getD,List.getElem?_set_ne h,<- List.getD_eq_getElem?_getD]
theorem set_same(F:List (List Int))(k:Nat)(x:List Int)(h:k<F.length):(F.set k x).getD k []=x:=by
 simp[List.getD_eq_getElem?_getD,h]
theorem Zkc(kp:Nat->Bool)(x:Nat × List Int):Zdd kp [x]=[]\/Zdd kp [x]=[x]:=by
 unfold Zdd;cases h:kp 0
 . left;simp[h]
 . right;simp[h]
theorem lay_crash{q1 q2:Int}{N1 N2:List Int}{D1 D2 Z:List (List Int)}(hZ:43<=Z.length){W:List (Nat × List Int)}(hW:layW q2 N2 D2 W)(hF1:frmT N1 D1=true)(hf1:farT Z.length N1)(hF2:frmT N2 D2=true)(hq2:0<=q2/\q2<4294967296)
 (s:DS) (hs:InvT s.F q1 N1 D1 Z) (hU:∀ x∈s.U,x∈Zat N1 D1) (hv:∀ i,OutJ i->i<Z.length->s.vis.getD i []=(appU (Zat N1 D1) Z).getD i []) (kp:Nat->Bool):
 let r:=runA (layA q2 W) s
 let G:=appU (Zat N1 D1) Z
 (InvT (appU (Zdd kp r.2.U) r.2.F) q1 N1 D1 Z/\r.1=2\/InvN (appU (Zdd kp r.2.U) r.2.F) G/\r.1=2\/InvT (appU (Zdd kp r.2.U) r.2.F) q2 N2 D2 G)/\
   (r.1=0->r.2.U=[]/\InvT r.2.F q2 N2 D2 G/\∀ i,OutJ i->i<Z.length->r.2.F.getD i []=G.getD i []):=by
 intro r G;have hGl:G.length=Z.length:=Zaj _ _;obtain⟨k,hk,hfu,hr⟩:=Zgu (layA q2 W) s;have hrF:r.2.F=(Zgm ((layA q2 W).take k) s.fuP).1:=congrArg Prod.fst hfu;have hrU:r.2.U=(Zgm ((layA q2 W).take k) s.fuP).2:=congrArg Prod.snd hfu;have hlen:(layA q2 W).length=6+W.length:=by simp[layA];omega
 obtain⟨V0,hV0⟩:∃ V0,V0=s.vis:=⟨_,rfl⟩;have hV0l:V0.length=Z.length:=by rw[hV0,DS.vis_length,hs.1]
 have hV0j:jour V0=jour s.F:=by rw[hV0];exact home_jour hf1 hU s.F (by rw[hs.1];exact hZ)
 have hV0o:∀ i,OutJ i->i<Z.length->V0.getD i []=G.getD i []:=by rw[hV0];exact hv
 have hI0:InvT V0 q1 N1 D1 Z:=⟨hV0l,by rw[hV0j];exact hs.2.1,fun i hi hl=>.inr (hV0o i hi hl)⟩;obtain⟨V1,hV1⟩:∃ V1,V1=V0.set 42 z256:=⟨_,rfl⟩;have hV1l:V1.length=Z.length:=by rw[hV1,List.length_set,hV0l]
 have out42:∀ i,OutJ i->42≠i:=fun i hi e=>by rcases hi with h|h <;> omega
 have hV1o:∀ i,OutJ i->i<Z.length->V1.getD i []=G.getD i []:=fun i hi hl=>by rw[hV1,Zec _ _ _ _ (out42 i hi)];exact hV0o i hi hl
 have hV1z:V1.getD 42 []=z256:=by rw[hV1];exact set_same _ _ _ (by omega)
 have hN1:InvN V1 G:=⟨by rw[hV1l,hGl],hV1z,fun i hi hl=>hV1o i hi (by rw[hGl] at hl;exact hl)⟩;have hWN:∀ X,(∀ x∈X,x∈W)->InvN (appU X V1) G:=fun X hX=>by
  refine⟨by rw[Zaj,hV1l,hGl],?_,fun i hi hl=>?_⟩
  . rw[Zbd X V1 42 fun x hx e=>by have:=(hW.1 x (hX x hx)).2;omega];exact hV1z
  . rw[Zbd X V1 i fun x hx e=>by have:=hW.1 x (hX x hx);rcases hi with h|h <;> omega]
    exact hV1o i hi (by rw[hGl] at hl;exact hl)
 obtain⟨V2,hV2⟩:∃ V2,V2=appU W V1:=⟨_,rfl⟩;have hV2l:V2.length=Z.length:=by rw[hV2,Zaj,hV1l]
 have hN2:InvN V2 G:=by rw[hV2];exact hWN W fun x hx=>hx
 obtain⟨V3,hV3⟩:∃ V3,V3=V2.set 42 (Zal (endL q2)):=⟨_,rfl⟩;have hV3l:V3.length=Z.length:=by rw[hV3,List.length_set,hV2l]
 obtain⟨hd,hbl⟩:=hW.2 V1 (by omega);have h37:=(Zct hF2).1;have hT3:Zkd (jour V3) q2 N2 D2:=by
  refine jour_txn (by omega) hF2 hq2 ?_ (fun j hj=>?_) ?_
  . rw[hV3,Zec _ _ _ _ (by omega),hV2];exact hd
  . rw[hV3,Zec _ _ _ _ (by omega),hV2];exact hbl j hj
  . rw[hV3];exact set_same _ _ _ (by omega)
 have hV3o:∀ i,OutJ i->i<Z.length->V3.getD i []=G.getD i []:=fun i hi hl=>by rw[hV3,Zec _ _ _ _ (out42 i hi)];exact hN2.2.2 i hi (by rw[hGl];exact hl)
 have hI3:InvT V3 q2 N2 D2 G:=⟨by rw[hV3l,hGl],hT3,fun i hi hl=>.inl (hV3o i hi (by rw[hGl] at hl;exact hl))⟩;have full:k=(layA q2 W).length->r.2.F=V3/\r.2.U=[]:=fun e=>by
  rw[hrF,hrU,e,List.take_length];unfold layA;rw[Zam,Zam,Zem];have a1:Zgm [.f,.w 42 z256,.f] s.fuP=(V1,[]):=by
   show(appU ([] ++ [(42,z256)]) (appU s.U s.F),([]:List (Nat × List Int)))=(V1,[])
   rw[hV1,hV0];rfl
  rw[a1];show(appU ([] ++ [(42,Zal (endL q2))]) (appU ([] ++ W) V1))=V3/\_
  rw[hV3,hV2];exact⟨rfl,rfl⟩
 refine⟨?_,fun h0=>?_⟩
 . have hcase:k=0\/k=1\/k=2\/(3<=k/\k<=3+W.length)\/k=4+W.length\/k=5+W.length\/k=6+W.length:=by omega
   have h2:k≠(layA q2 W).length->r.1=2:=fun hne=>by
    rcases hr with⟨_,h⟩|h
    . exact absurd h hne
    . exact h
   have step:∀ j,(layA q2 W).take (3+j)=([PA.f,PA.w 42 z256,PA.f]:List PA) ++ ((W.map fun y:Nat × List Int=>PA.w y.1 y.2) ++ [PA.f,PA.w 42 (Zal (endL q2)),PA.f]).take j:=fun j=>by
    unfold layA;rw[List.append_assoc];exact List.take_length_add_append (l₁:=([PA.f,PA.w 42 z256,PA.f]:List PA)) j
   have a1:Zgm [.f,.w 42 z256,.f] s.fuP=(V1,[]):=by
    show(appU ([] ++ [(42,z256)]) (appU s.U s.F),([]:List (Nat × List Int)))=(V1,[])
    rw[hV1,hV0];rfl
   rcases hcase with rfl|rfl|rfl| ⟨ha,hb⟩|rfl|rfl|rfl
   . refine .inl ⟨?_,h2 (by omega)⟩
     have e1:r.2.F=s.F:=hrF;have e2:r.2.U=s.U:=hrU;rw[e1,e2];exact hs.home hF1 hf1 hZ fun x hx=>hU x (Zgh hx)
   . refine .inl ⟨?_,h2 (by omega)⟩
     have e1:r.2.F=V0:=by rw[hV0];exact hrF
     have e2:r.2.U=[]:=hrU;rw[e1,e2];exact hI0
   . have e1:r.2.F=V0:=by rw[hV0];exact hrF
     have e2:r.2.U=[(42,z256)]:=hrU;rw[e1,e2];rcases Zkc kp (42,z256) with e|e
     . rw[e];exact .inl ⟨hI0,h2 (by omega)⟩
     . rw[e]
       refine .inr (.inl ⟨?_,h2 (by omega)⟩);show InvN (V0.set 42 z256) G
       rw[<- hV1];exact hN1
   . obtain⟨j,rfl⟩:∃ j,k=3+j:=⟨k-3,by omega⟩
     have hj:j<=W.length:=by omega
     rw[step,List.take_append_of_le_length (by simpa using hj),<- List.map_take,Zam,a1,Zem] at hrF hrU;rw[hrF,hrU];refine .inr (.inl ⟨hWN _ fun x hx=>?_,h2 (by omega)⟩);have:=Zgh hx;rw[List.nil_append] at this;exact List.mem_of_mem_take this
   . have e0:(layA q2 W).take (4+W.length)=[.f,.w 42 z256,.f] ++ ((W.map fun y=>PA.w y.1 y.2) ++ [.f]):=by
      rw[show 4+W.length=3+(W.length+1) by omega,step];congr 1;rw[show W.length+1=(W.map fun y=>PA.w y.1 y.2).length+1 by simp,List.take_length_add_append];rfl
     rw[e0,Zam,Zam,a1,Zem] at hrF hrU;have e1:r.2.F=V2:=by rw[hV2];exact hrF
     have e2:r.2.U=[]:=hrU;rw[e1,e2];exact .inr (.inl ⟨hN2,h2 (by omega)⟩)
   . have e0:(layA q2 W).take (5+W.length)=[.f,.w 42 z256,.f] ++ ((W.map fun y=>PA.w y.1 y.2) ++ [.f,.w 42 (Zal (endL q2))]):=by
      rw[show 5+W.length=3+(W.length+2) by omega,step];congr 1;rw[show W.length+2=(W.map fun y=>PA.w y.1 y.2).length+2 by simp,List.take_length_add_append];rfl
     rw[e0,Zam,Zam,a1,Zem] at hrF hrU;have e1:r.2.F=V2:=by rw[hV2];exact hrF
     have e2:r.2.U=[(42,Zal (endL q2))]:=hrU;rw[e1,e2];rcases Zkc kp (42,Zal (endL q2)) with e|e
     . rw[e];exact .inr (.inl ⟨hN2,h2 (by omega)⟩)
     . rw[e]
       refine .inr (.inr ?_);show InvT (V2.set 42 (Zal (endL q2))) q2 N2 D2 G
       rw[<- hV3];exact hI3
   . obtain⟨e1,e2⟩:=full (by omega)
     rw[e1,e2];exact .inr (.inr hI3)
 . have hkk:k=(layA q2 W).length:=by
    rcases hr with⟨_,h⟩|h
    . exact h
    . have h0':(runA (layA q2 W) s).1=0:=h0
      rw[h0'] at h;cases h
   obtain⟨e1,e2⟩:=full hkk;rw[e1,e2];exact⟨rfl,hI3,hV3o⟩
def Zap(N:List Int)(D:List (List Int)):List PA:=(Zat N D).map fun y=>.w y.1 y.2
theorem Zin(N:List Int)(D:List (List Int))(k:Nat)(x:List (List Int) × List (Nat × List Int)):Zgm ((Zap N D).take k) x=(x.1,x.2 ++ (Zat N D).take k):=by
 unfold Zap;rw[<- List.map_take,Zem]
theorem Zcy(N:List Int)(D:List (List Int)):(Zap N D).length=N.length:=by simp[Zap,Zat]
theorem home_crash{q:Int}{N:List Int}{D G:List (List Int)}(hF:frmT N D=true)(hf:farT G.length N)(hG:43<=G.length)(s:DS)(hs:InvT s.F q N D G)(hU:∀ x∈s.U,x∈Zat N D)(fl:Bool)(kp:Nat->Bool):
 let r:=runA (Zap N D ++ (if fl then [.f] else [])) s
 InvT (appU (Zdd kp r.2.U) r.2.F) q N D G/\InvT r.2.F q N D G/\(∀ x∈r.2.U,x∈Zat N D):=by
 intro r;obtain⟨k,hk,hfu,_⟩:=Zgu (Zap N D ++ (if fl then [PA.f] else [])) s;have hrF:r.2.F=(Zgm ((Zap N D ++ (if fl then [PA.f] else [])).take k) s.fuP).1:=congrArg Prod.fst hfu;have hrU:r.2.U=(Zgm ((Zap N D ++ (if fl then [PA.f] else [])).take k) s.fuP).2:=congrArg Prod.snd hfu;have key:InvT r.2.F q N D G/\∀ x∈r.2.U,x∈Zat N D:=by
  by_cases hkl:k<=(Zap N D).length
  . rw[List.take_append_of_le_length hkl,Zin] at hrF hrU
    rw[hrF,hrU];refine⟨hs,fun x hx=>?_⟩;rcases List.mem_append.1 hx with h|h
    . exact hU x h
    . exact List.mem_of_mem_take h
  . cases fl
    . rw[List.length_append] at hk
      simp at hk;omega
    . have e:(Zap N D ++ (if true then [PA.f] else [])).take k=Zap N D ++ [PA.f]:=by
       apply List.take_of_length_le;simp;omega
      rw[e,Zam] at hrF hrU;have e2:=Zin N D (Zap N D).length s.fuP;rw[List.take_length] at e2;rw[e2] at hrF hrU;have e3:(Zat N D).take (Zap N D).length=Zat N D:=by
       apply List.take_of_length_le;simp[Zap]
      rw[e3] at hrF hrU;have e4:r.2.F=appU (s.U ++ Zat N D) s.F:=hrF;have e5:r.2.U=[]:=hrU;rw[e4,e5];refine⟨hs.home hF hf hG fun x hx=>?_,fun x hx=>by cases hx⟩;rcases List.mem_append.1 hx with h|h
      . exact hU x h
      . exact h
 exact⟨key.1.home hF hf hG fun x hx=>key.2 x (Zgh hx),key.1,key.2⟩
theorem Zfo(w:World)(b off n cap l h:Nat)(hi:Option Value)(hhi:(hi=none/\h=n)\/hi=some (.int .i64 (h:Int)))(h1:l<=h)(h2:h<=cap)(h3:l<cap):
 (Instr.sliceAt 30 (.slice (some ⟨b,off,none⟩) n cap) (some (.int .i64 (l:Int))) hi none).run Tryz.prog w=.ok (.slice (some ⟨b,off+l,none⟩) (h-l) (cap-l)) w:=by
 obtain⟨i,g2,g3,g4,g5⟩:=info_parts Zke;have hne:cap≠l:=by omega
 have ee:Tryz.prog.elem 30=5:=by kernel_rfl
 have hs:(sizeOf 5).run Tryz.prog w=.ok 1 w:=by simp[sizeOf,typeInfo,g2,g4]
 rcases hhi with⟨rfl,rfl⟩|rfl
 . rw[run_sliceAt_slice w 30 _ _ _ _ (by rw[ee];exact Tryz.underlying30),run_slice_l w 30 _ h cap (by rw[ee];exact Tryz.underlying30) .i64 (l:Int) (by omega) (by omega),ee,hs]
   simp[sliced,hne,Addr.add_lit]
 . rw[run_sliceAt_slice w 30 _ _ _ _ (by rw[ee];exact Tryz.underlying30),run_slice_lh w 30 _ n cap (by rw[ee];exact Tryz.underlying30) .i64 .i64 (l:Int) (h:Int) (by omega) (by omega) (by omega),ee,hs]
   simp[sliced,hne,Addr.add_lit]
theorem Zen{w:World}{ops:Array Oper}{rest:List Oper}{o:Oper}{a:Act}{Q:Exit->Act->World->Prop}(hgd:o.guard=none)(x lo hi:Operand)(ho:o.op=.slice 30 x (some lo) (some hi) none)
 (b off n cap:Nat) (hx:a.eval x=.slice (some ⟨b,off,none⟩) n cap) (L H:Int) (hl:a.eval lo=.int .i64 L) (hh:a.eval hi=.int .i64 H) (l h m:Nat) (hm:h-l=m) (hL:L=l) (hH:H=h) (h1:l<=h) (h2:h<=cap) (h3:l<cap)
 (hK:wpList Tryz.prog ops Q rest (a.put o.dst (.slice (some ⟨b,off+l,none⟩) m (cap-l))) w):wpList Tryz.prog ops Q (o :: rest) a w:=by
 subst hL hH hm;refine wpList_plain hgd fun K hK'=>?_
 unfold Oper.wp execOp;simp only[ho,hx,hl,hh,Option.map_some,Option.map_none,Zfo w b off n cap l h _ (.inr rfl) h1 h2 h3,Sem.run_bind,Sem.run_pure,Result.andThen_ok];exact hK' _ _ hK
theorem Zfn{w:World}{ops:Array Oper}{rest:List Oper}{o:Oper}{a:Act}{Q:Exit->Act->World->Prop}(hgd:o.guard=none)(x lo:Operand)(ho:o.op=.slice 30 x (some lo) none none)
 (b off n cap:Nat) (hx:a.eval x=.slice (some ⟨b,off,none⟩) n cap) (L:Int) (hl:a.eval lo=.int .i64 L) (l:Nat) (hL:L=l) (h1:l<=n) (h2:n<=cap) (h3:l<cap)
 (hK:wpList Tryz.prog ops Q rest (a.put o.dst (.slice (some ⟨b,off+l,none⟩) (n-l) (cap-l))) w):wpList Tryz.prog ops Q (o :: rest) a w:=by
 subst hL;refine wpList_plain hgd fun K hK'=>?_
 unfold Oper.wp execOp;simp only[ho,hx,hl,Option.map_some,Option.map_none,Zfo w b off n cap l n none (.inl ⟨rfl,rfl⟩) h1 h2 h3,Sem.run_bind,Sem.run_pure,Result.andThen_ok];exact hK' _ _ hK
theorem BSl.mid{w:World}{b off cap:Nat}{l:List Int}(h:BSl w (.slice (some ⟨b,off,none⟩) l.length cap) l)(lo m:Nat)(hm:lo+m<=l.length):BSl w (.slice (some ⟨b,off+lo,none⟩) m (cap-lo)) ((l.drop lo).take m):=by
 have hlen:((l.drop lo).take m).length=m:=by simp;omega
 rcases h.2 with⟨hv,_⟩| ⟨a',c',hv,hc0,hc⟩
 . simp at hv
 . obtain⟨rfl,rfl⟩:a'=⟨b,off,none⟩/\cap=c':=by
    have:=Value.slice.inj hv;exact⟨(Option.some.inj this.1).symm,this.2.2⟩
   refine⟨Zbs (Zkr h.1 lo) m,.inr ⟨⟨b,off+lo,none⟩,cap-lo,by rw[hlen],by rw[hlen];omega,fun j hj=>?_⟩⟩;rw[hlen] at hj;obtain⟨h1,_,h3⟩:=hc (lo+j) (by omega);refine⟨h1,rfl,?_⟩;show w.cell? ⟨b,off+lo+j,none⟩=_
   rw[Nat.add_assoc];have h3:w.cell? ⟨b,off+(lo+j),none⟩=some (.int .u8 (l.getD (lo+j) 0)):=h3;rw[h3];simp[List.getD_eq_getElem?_getD,hj]
theorem BSl.open'{w:World}{v:Value}{l:List Int}(h:BSl w v l)(h0:0<l.length):∃ b off cap,v=.slice (some ⟨b,off,none⟩) l.length cap/\l.length<=cap/\b<w.heap.size:=by
 rcases h.2 with⟨_,hl⟩| ⟨⟨b,off,spot⟩,cap,hv,hc0,hc⟩
 . rw[hl] at h0;simp at h0
 . obtain⟨h1,h2,_⟩:=hc 0 h0
   obtain rfl:spot=none:=h2;exact⟨b,off,cap,hv,hc0,h1⟩
structure Rw (w:World) (B:Nat) (v:Value) (l:List Int) (g cap:Nat) (T:TypeId) (rest:List Value):Prop where
 byt:Byt l
 len:l.length=256
 val:v=.slice (some ⟨g,0,none⟩) 256 cap
 ge:B<=g
 row:w.heap[g]? =some (.cells (l.map (Value.int .u8) ++ rest).toArray T (0,0))
 cap:256<=cap
section
variable {w w':World}{B g cap:Nat}{v:Value}{l:List Int}{T:TypeId}{rest:List Value}
theorem Rw.lt(h:Rw w B v l g cap T rest):g<w.heap.size:=(Array.getElem?_eq_some_iff.1 h.row).1
theorem Rw.bsl(h:Rw w B v l g cap T rest):BSl w v l:=by
 refine⟨h.byt,.inr ⟨⟨g,0,none⟩,cap,by rw[h.val,h.len],by rw[h.len];exact h.cap,fun j hj=>⟨h.lt,rfl,?_⟩⟩⟩;show w.cell? ⟨g,0+j,none⟩=_
 rw[Nat.zero_add,cell_of_row _ _ _ _ _ _ h.row];simp only[List.getElem?_toArray];rw[List.getElem?_append_left (by simpa using hj),List.getElem?_map,List.getElem?_eq_getElem hj,List.getD_eq_getElem?_getD,List.getElem?_eq_getElem hj];rfl
theorem OB.rw'(h:OB w B v l)(hl:l.length=256):∃ g cap T rest,Rw w B v l g cap T rest:=by
 rcases h.2.2 with⟨_,h0⟩| ⟨g,cap,cur,hv,hg,hh,hnc,hcm,hcs,ht⟩
 . omega
 . refine⟨g,cap,5,cur.toList.drop 256,h.1,hl,by rw[hv,hl],hg,?_,by omega⟩
   rw[hh];have:l.map (Value.int .u8) ++ cur.toList.drop 256=cur.toList:=by
    rw[<- ht,hl,Nat.mul_one,List.take_append_drop]
   rw[this]
theorem splice_map{α β:Type}(f:α->β)(L:List α)(R:List β)(o:Nat)(cs:List α)(h:o+cs.length<=L.length):splice (L.map f ++ R) o (cs.map f)=(splice L o cs).map f ++ R:=by
 unfold splice;rw[List.take_append_of_le_length (by rw[List.length_map];omega),List.length_map,List.drop_append_of_le_length (by rw[List.length_map];omega),List.map_append,List.map_append,List.map_take,List.map_drop,List.append_assoc,List.append_assoc]
theorem byt_splice{L cs:List Int}(hL:Byt L)(hc:Byt cs)(o:Nat):Byt (splice L o cs):=Zdc (Zbs hL o) (Zdc hc (Zkr hL _))
theorem Rw.wrote(h:Rw w B v l g cap T rest){o:Nat}{cs:List Int}(hc:Byt cs)(ho:o+cs.length<=256)(hr:w'.heap[g]? =some (.cells (splice (l.map (Value.int .u8) ++ rest) o (cs.map (Value.int .u8))).toArray T (0,0))):
 Rw w' B v (splice l o cs) g cap T rest:=by
 have hl:=h.len;refine⟨byt_splice h.byt hc o,by rw[length_splice _ _ _ (by omega)];exact hl,h.val,h.ge,?_,h.cap⟩;rw[hr,splice_map _ _ _ _ _ (by omega)]
theorem zeroU8v(w:World):(zeroValue 5).run Tryz.prog w=.ok (.int .u8 0) w:=by
 obtain⟨t,h2,h3,_⟩:=info_parts Zke;simp[zeroValue,typeInfo,h2,h3,Result.andThen]
theorem Rw.clear(h:Rw w B v l g cap T rest){o n c:Nat}(hn:0<n)(ho:o+n=256):
 ∃ w',(∀ ty,(Builtin.clear_ #[30] ty #[.slice (some ⟨g,o,none⟩) n c]).run Tryz.prog w=.ok (.tuple #[]) w')/\Wrote w w' g/\Rw w' B v (splice l o (List.replicate n 0)) g cap T rest:=by
 have hl:=h.len;have hrow:=h.row;have hlen:(l.map (Value.int .u8) ++ rest).length=256+rest.length:=by rw[List.length_append,List.length_map,hl]
 have hth:=Zcp hrow (o:=o) (n:=n) (by rw[hlen];omega);have e:(List.replicate n 0).map (Value.int .u8)=List.replicate n (.int .u8 0):=List.map_replicate;have hs:=Zbx hrow (o:=o) (vs:=List.replicate n (.int .u8 0)) (by rw[List.length_replicate,hlen];omega) (fun v hv=>by rw[List.eq_of_mem_replicate hv];rfl);refine⟨_,fun ty=>Lib.run_clear_slice w 30 5 ty (.int .u8 0) Tryz.underlying30 zeroU8v rfl rfl g o n c hn (fun j hj=>(hth j hj).1) (fun j hj=>(hth j hj).2),?_,?_⟩
 . rw[hs];exact Wrote.setRow w g _
 . rw[hs]
   refine h.wrote (Zba n) (by rw[List.length_replicate];omega) ?_;rw[setRow_heap _ _ _ _ _ _ hrow,e]
end
section
variable {w:World}{P:Nat->Prop}{p:Value}{s:DS}
theorem kBlocks(h:Dk w P p s):Calls Tryz.prog 149 #[p] w fun e w'=>e=.returned (.int .i64 (s.F.length:Nat))/\w=w':=by
 obtain⟨bp,bf,bv,u,rfl,h,_⟩:=h;have c1:=h.c1;rw[DS.vis_length] at c1;clear h;go_enter Tryz.func149,Tryz.ntmps149;go_wp2;go_ret;exact⟨rfl,rfl⟩
set_option maxRecDepth 100000 in
theorem kReadR(hk:Dk w P p s)(n:Nat)(hn:n<s.F.length)(hd:s.dn=false):
 Calls Tryz.prog 107 #[p,.int .i64 n] w fun e w'=>∃ v,e=.returned (.tuple #[v,.int .i64 0])/\Rw w' w.heap.size v (s.vis.getD n []) w.heap.size 256 151 []/\Below w.heap.size w w':=by
 obtain⟨bp,bf,bv,u,rfl,h,_⟩:=hk;rw[hd] at h;have hnV:n<s.vis.length:=by rw[DS.vis_length];exact hn
 have hge:s.vis.getD n []=s.vis[n]:=by rw[List.getD_eq_getElem?_getD,List.getElem?_eq_getElem hnV];rfl
 rw[hge];generalize s.vis=V at h hnV |-
 clear hge hn;have hlen:Tryz.prog.arrayLen 151=256:=by kernel_rfl
 have hblk:Blk V[n]:=h.okV _ (List.getElem_mem _);have hmem:=Zca h.hv (o:=n*256) (vs:=cB V[n]) (by rw[Zau,hblk.1];exact Zfj (Zcc h.okV) n hnV);have KH:=hid (dHas_at h n);have hdc:decide (0<=(n:Int)/\(n:Int)<V.length)=true:=decide_eq_true (by omega);rw[hdc] at KH;obtain⟨b,hb⟩:∃ b,b=V[n]:=⟨_,rfl⟩;rw[<- hb] at hblk hmem |-
 have HL:Hid ((cB b).length=256):=by show _=_;rw[Zau,hblk.1]
 have HR:=hid hmem;have HB:=hid hblk;have HZ:=hid Zde;have hone:∀ v∈zB,v.oneCell'=true:=fun v hv=>by rw[List.eq_of_mem_replicate hv];rfl
 have c1:=h.c1;have c5:=h.c5;have hn':(n:Int)<V.length:=by omega
 clear hb hblk hmem h hdc hd;go_enter Tryz.func107,Tryz.ntmps107
 go_wp2_with (first
  |(go_at_call 133;refine KH.out.mono ?_;rintro e w' ⟨rfl,rfl⟩)
  |with_reducible refine Zej _ rfl rfl ?_
  |(refine wpList_loadB _ rfl _ (by rfl) bv (n*256) (cB b) (by rfl) HR.out HL.out ?_)
  |(refine Zdf _ rfl _ _ (by rfl) _ 151 zB (cB b) (by rfl) (by rfl) (heap_alloc_last _ _) HZ.out HL.out (Zhj b) ?_
    rw[World.setRow_alloc_new]))
 go_ret2;refine⟨_,rfl,⟨HB.out.2,HB.out.1,rfl,Nat.le_refl _,?_,Nat.le_refl _⟩,(Below.refl _ _).alloc (Nat.le_refl _) _⟩;rw[heap_alloc_last,List.append_nil];rfl
theorem kRead(hk:Dk w P p s)(n:Nat)(hn:n<s.F.length)(hd:s.dn=false):
 Calls Tryz.prog 107 #[p,.int .i64 n] w fun e w'=>∃ v,e=.returned (.tuple #[v,.int .i64 0])/\BSl w' v (s.vis.getD n [])/\Below w.heap.size w w'/\v=.slice (some ⟨w.heap.size,0,none⟩) 256 256:=
 (kReadR hk n hn hd).mono fun e w' ⟨v,he,hr,hb⟩=>⟨v,he,hr.bsl,hb,hr.val⟩
theorem kWrite(h:Dk w P p s)(n:Nat)(hn:n<s.F.length){v:Value}{l:List Int}(hv:BSl w v l)(hl:l.length=256)(hU:s.U.length<=1000000):
 Calls Tryz.prog 164 #[p,.int .i64 n,v] w fun e w'=>e=.returned (.int .i64 (if s.ok then 0 else 2))/\∃ P',Dk w' P' p (if s.ok then s.write n l else s.pay)/\Chg P P' w w':=by
 obtain⟨bp,bf,bv,u,rfl,h,⟨h0,h1⟩,hP⟩:=h;cases hok:s.ok
 . refine(dWrite_off h h0 h1 n hv ⟨by rw[DS.vis_length];omega,hl⟩ hok).mono ?_
   rintro e w' ⟨rfl,hd,hw⟩;exact⟨rfl,P,⟨bp,bf,bv,u,rfl,hd,pLe_bound ⟨h0,h1⟩,hP⟩,Chg.of_wrote hP hw⟩
 . refine(dWrite_on h h0 h1 hok n (by rw[DS.vis_length];exact hn) hv hl hU).mono ?_
   rintro e w' ⟨rfl,u',hd,_,hfr⟩;refine⟨rfl,_,⟨bp,bf,bv,u',rfl,?_,pLe_bound ⟨h0,h1⟩,fun k=>Iff.rfl⟩,Chg.of_frU hP hfr⟩;show DskAt w' 0 bp bf bv u' s.F (s.write n l).vis (s.U ++ [(n,l)]) s.fu _ _
   rw[DS.write_vis];exact hd
theorem kFlush(h:Dk w P p s)(hU:s.U.length<=1000000):
 Calls Tryz.prog 124 #[p] w fun e w'=>e=.returned (.int .i64 (if s.ok then 0 else 2))/\∃ P',Dk w' P' p (if s.ok then s.flush else s.pay)/\Chg P P' w w':=by
 obtain⟨bp,bf,bv,u,rfl,h,⟨h0,h1⟩,hP⟩:=h;have KP:=hid (Zie h h0 h1);have HP:=hid hP;have HB:=hid (pLe_bound (fu:=s.fu) (dn:=s.dn) ⟨h0,h1⟩);cases hok:s.ok
 . have hok':pOk s.fu s.le s.dn=false:=hok
   rw[hok'] at KP;clear h h0 h1 hP hok hok';go_enter Tryz.func124,Tryz.ntmps124;go_wp2_with (go_at_call 165;refine KP.out.mono ?_;rintro e w2 ⟨rfl,hd2,hw2⟩)
   go_ret;exact⟨rfl,P,⟨bp,bf,bv,u,rfl,hd2,HB.out,HP.out⟩,Chg.of_wrote HP.out hw2⟩
 . have hok':pOk s.fu s.le s.dn=true:=hok
   rw[hok'] at KP;have HSF:=hid (stF_all s.U s.F);have HSV:=hid (stV_is (fun _=>true) s.U s.F);clear h h0 h1 hP hok hok';go_enter Tryz.func124,Tryz.ntmps124
   go_wp2_with (first
    |(go_at_call 165;refine KP.out.mono ?_;rintro e w2 ⟨rfl,hd2,hw2⟩)
    |(go_at_call 166;refine(dSettleFw hd2 (Nat.zero_le _) hU (fun _=>true) (fun W _ i _=>dFlush1_any W i)).mono ?_
      rintro e w4 ⟨rfl,h4,_,f4⟩))
   go_ret;refine⟨rfl,_,⟨bp,bf,bv,.slice none 0 0,rfl,?_,HB.out,fun k=>Iff.rfl⟩,(Chg.of_wrote HP.out hw2).trans (Chg.of_fr3 HP.out f4)⟩;show DskAt w4 0 bp bf bv (.slice none 0 0) s.vis s.flush.vis [] s.fu _ _
   rw[DS.flush_vis];have hd4:DskAt w4 0 bp bf bv (.slice none 0 0) (stF (fun _=>true) s.U s.F s.U.length) (stV s.U (stF (fun _=>true) s.U s.F s.U.length) (appU s.U s.F) s.U.length) [] s.fu (pLe s.fu s.le s.dn) (pDn s.fu s.le s.dn):=h4;rw[HSV.out,HSF.out,keepU_all] at hd4;exact hd4
end
theorem kNew(w:World)(n:Nat)(hn:n<=2000):
 Calls Tryz.prog 43 #[.int .i64 n] w fun e w'=>∃ p P,e=.returned p/\Dk w' P p (DS.new n)/\(∀ k,P k->w.heap.size<=k)/\Below w.heap.size w w':=by
 refine(dNew_at w n hn).mono ?_;rintro e w' ⟨p,rfl,_,⟨bp,bf,bv,u,rfl,hd⟩,hb⟩;refine⟨_,DOwn bp bf bv u,rfl,⟨bp,bf,bv,u,rfl,hd.lower,⟨Int.le_refl _,(by decide:(0:Int)<=9223372036854775807)⟩,fun k=>Iff.rfl⟩,fun k hk=>?_,hb⟩;rcases hk with rfl|rfl|rfl|hk
 . exact hd.bB.1
 . exact hd.bB.2.1
 . exact hd.bB.2.2
 . exact(hd.hu.lt k hk).1
theorem ISc.chg{P P':Nat->Prop}{w w':World}{v:Value}{l:List Int}(h:ISc w v l)(ha:Apt P v)(hc:Chg P P' w w'):ISc w' v l/\Apt P' v:=
 ⟨⟨(h.1.chg ha hc).1,h.2⟩,(h.1.chg ha hc).2⟩
theorem Dk.types{w:World}{P:Nat->Prop}{p:Value}{s:DS}(h:Dk w P p s)(k:Nat)(hk:P k):∃ cur T,w.heap[k]? =some (.cells cur T (0,0))/\(T=131\/T=151\/T=155):=by
 obtain⟨bp,bf,bv,u,_,hd,_,hP⟩:=h;rcases(hP k).1 hk with rfl|rfl|rfl|hu
 . exact⟨_,_,hd.hp,.inl rfl⟩
 . exact⟨_,_,hd.hf,.inr (.inl rfl)⟩
 . exact⟨_,_,hd.hv,.inr (.inl rfl)⟩
 . rcases hd.hu.2 with⟨h0,_⟩| ⟨g,cap,cur,hv,_,hh,_⟩
   . rw[h0] at hu;simp[Value.ownBlock] at hu
   . rw[hv] at hu
     obtain rfl:g=k:=by simpa [Value.ownBlock] using hu
     exact⟨_,_,hh,.inr (.inr rfl)⟩
theorem Dk.not{w:World}{P:Nat->Prop}{p:Value}{s:DS}(h:Dk w P p s){k:Nat}{cur:Array Value}{T:TypeId}(hk:w.heap[k]? =some (.cells cur T (0,0)))(h1:T≠131)(h2:T≠151)(h3:T≠155):¬ P k:=fun hp=>by
 obtain⟨cur',T',he,ht⟩:=h.types k hp;rw[hk] at he
 injection he with he
 injection he with _ e
 subst e;rcases ht with ht|ht|ht
 . exact h1 ht
 . exact h2 ht
 . exact h3 ht
theorem BElt.apt{w:World}{P:Nat->Prop}{p:Value}{s:DS}(h:Dk w P p s){v:Value}{l:List Int}(ho:BElt w 0 v l):Apt P v:=by
 intro ad n cap e hn;rcases ho.1.2 with⟨hv,_⟩| ⟨a,c,hv,_,hc⟩
 . rw[hv] at e;cases e
 . have e':=e
   rw[hv] at e';have hl:0<l.length:=by rw[(Value.slice.inj e').2.1];exact hn
   obtain⟨b,off,c',hv',_,hor⟩:=ho.2 hl;rw[hv'] at e;obtain rfl:=Option.some.inj (Value.slice.inj e).1;rcases hor with h0| ⟨cur,hh⟩
   . omega
   . exact h.not hh (by decide) (by decide) (by decide)
theorem IR.apt{w:World}{P:Nat->Prop}{p:Value}{s:DS}(h:Dk w P p s){B:Nat}{v:Value}{l:List Int}(ho:IR w B v l):Apt P v:=by
 intro ad n cap e hn;rcases ho.2 with⟨hv,_⟩| ⟨g,c,cur,hv,_,hh,_⟩
 . rw[hv] at e;cases e
 . rw[hv] at e
   obtain rfl:=Option.some.inj (Value.slice.inj e).1;exact h.not hh (by decide) (by decide) (by decide)
theorem BBR.apart{w:World}{P:Nat->Prop}{p:Value}{s:DS}(h:Dk w P p s){v:Value}{L:List (List Int)}(ho:BBR w 0 v L):BBa w P v L:=by
 obtain⟨vs,hl,hr,ow⟩:=ho;rcases ow.2 with⟨hv,hl0⟩| ⟨g,cap,cur,hv,hg,hh,hnc,hcm,hcs,ht⟩
 . exact .inl ⟨hv,List.eq_nil_of_length_eq_zero hl0⟩
 . refine .inr ⟨_,cap,hv,hnc,fun j hj=>⟨⟨(Array.getElem?_eq_some_iff.1 hh).1,h.not hh (by decide) (by decide) (by decide)⟩,rfl,vs.getD j undef,?_,(hr j hj).1,(hr j hj).apt h⟩⟩
   show w.cell? ⟨g,0+j,none⟩=_
   rw[Nat.zero_add,cell_of_row _ _ _ _ _ _ hh];have:(cur.toList.take (L.length*1))[j]? =vs[j]? :=by rw[ht]
   rw[List.getElem?_take,if_pos (by omega)] at this
   simpa [List.getD_eq_getElem?_getD,show j<vs.length by omega] using this
def TxVa(w:World)(P:Nat->Prop)(v:Value)(q:Int)(N:List Int)(D:List (List Int)):Prop:=
 ∃ no nc ao dc,v=.agg #[.int .u32 q,.slice no N.length nc,.slice ao D.length dc]/\(ISc w (.slice no N.length nc) N/\Apt P (.slice no N.length nc))/\BBa w P (.slice ao D.length dc) D
theorem TxVa.v{w:World}{P:Nat->Prop}{v:Value}{q:Int}{N:List Int}{D:List (List Int)}(h:TxVa w P v q N D):TxV w v q N D:=by
 obtain⟨no,nc,ao,dc,h1,h2,h3⟩:=h;exact⟨no,nc,ao,dc,h1,h2.1,h3.sl⟩
theorem TxVa.chg{P P':Nat->Prop}{w w':World}{v:Value}{q:Int}{N:List Int}{D:List (List Int)}(h:TxVa w P v q N D)(hc:Chg P P' w w'):TxVa w' P' v q N D:=by
 obtain⟨no,nc,ao,dc,h1,h2,h3⟩:=h;exact⟨no,nc,ao,dc,h1,h2.1.chg h2.2 hc,h3.chg hc⟩
theorem TxVa.own{w:World}{P:Nat->Prop}{p:Value}{s:DS}(h:Dk w P p s){q:Int}{vN vD:Value}{N:List Int}{D:List (List Int)}(hN:IR w 0 vN N)(hD:BBR w 0 vD D):TxVa w P (.agg #[.int .u32 q,vN,vD]) q N D:=by
 have hN':=hN.isc;have hD':=hD.apart h;have ha:=hN.apt h;obtain⟨_,no,nc,rfl,_⟩:=hN';obtain⟨ao,dc,rfl,_⟩:=hD'.sl.shape;exact⟨no,nc,ao,dc,rfl,⟨hN.isc,ha⟩,hD'⟩
def hasN(n:Nat)(N:List Int):Bool:=(List.range N.length).all fun k=>decide (N.getD k 0<(n:Int))
theorem Zkf(n:Nat)(N:List Int):hasN n N=true ↔ ∀ k,k<N.length->N.getD k 0<(n:Int):=by
 unfold hasN;rw[List.all_eq_true];exact⟨fun h k hk=>of_decide_eq_true (h k (List.mem_range.2 hk)),fun h k hk=>decide_eq_true (h k (List.mem_range.1 hk))⟩
theorem hasN_no{n:Nat}{N:List Int}(k:Nat)(hk:k<N.length)(h:¬ N.getD k 0<(n:Int)):hasN n N=false:=by
 cases e:hasN n N
 . rfl
 . exact absurd ((Zkf n N).1 e k hk) h
section
variable {w:World}{P:Nat->Prop}{p:Value}{s:DS}
theorem gUsable_is(h:Dk w P p s)(B:Bool)(hB:decide (64<=s.F.length)=B):Calls Tryz.prog 172 #[p] w fun e w'=>e=.returned (.bool B)/\w=w':=by
 have KB:=hid (kBlocks h);obtain⟨bp,rfl⟩:=h.ptr;generalize s.F.length=n at KB hB;have hB2:decide ((64:Int)<=(n:Int))=B:=by rw[<- hB];exact decide_eq_decide.2 (by omega)
 have HB:=hid (congrArg (fun b=>Ending.returned (Value.bool b)) hB2);clear h hB hB2;go_enter Tryz.func172,Tryz.ntmps172;go_wp2_with (go_at_call 149;(with_reducible refine KB.out.mono ?_);rintro e w2 ⟨rfl,rfl⟩)
 go_ret;exact⟨HB.out,rfl⟩
theorem gHas_is(h:Dk w P p s){v:Value}{N:List Int}(hs:ISl w v N)(hN:N.length<=1000000)(B:Bool)(hB:hasN s.F.length N=B):Calls Tryz.prog 174 #[p,v] w fun e w'=>e=.returned (.bool B)/\w=w':=by
 have KB:=hid (kBlocks h);obtain⟨bp,rfl⟩:=h.ptr;obtain⟨ao,cap,rfl,hc⟩:=hs.open';have hno:=fun k hk h=>hasN_no (n:=s.F.length) (N:=N) k hk h
 have hyes:=(Zkf s.F.length N).2;rw[hB] at hno hyes;generalize s.F.length=z at KB hno hyes;obtain⟨n,hn⟩:∃ n,n=N.length:=⟨_,rfl⟩;rw[<- hn] at hc hno hyes hN |-
 have HC:=hid hc;have HNO:=hid hno;have HYE:=hid hyes;clear h hs hc hno hyes hB hn;go_enter Tryz.func174,Tryz.ntmps174;go_wp2
 go_loop [9] (fun i=>∃ k:Nat,k<=n/\i=.int .i64 k/\Hid (∀ j,j<k->N.getD j 0<(z:Int))) (fun i=>n-(intOf i).toNat)
 case atStart=>exact⟨0,by omega,rfl,fun j hj=>absurd hj (Nat.not_lt_zero _)⟩
 case round=>
  obtain⟨k,hk,rfl,HK⟩:=hrel;by_cases hlt:k<n
  . obtain⟨b,off,rfl,_,hcc⟩:=HC.out (by omega)
    have hck:=hcc k hlt;have hn1:=HNO.out k hlt;obtain⟨x,hx⟩:∃ x,x=N.getD k 0:=⟨_,rfl⟩;rw[<- hx] at hck hn1;have HX:=hid hx;have HN1:=hid hn1;have ek:(k:Int)<(n:Int):=by omega
    clear hx hcc hn1;by_cases hf:x<(z:Int)
    . have h1:¬ (z:Int)<=x:=by omega
      go_wp2_with (go_at_call 149;(with_reducible refine KB.out.mono ?_);rintro e w2 ⟨rfl,rfl⟩)
      go_round
      case rel=>
       refine⟨k+1,by omega,by go_num,fun j hj=>?_⟩;by_cases e:j=k
       . subst e;rw[<- HX.out];exact hf
       . exact HK.out j (by omega)
      case measure=>simp[intOf];omega
    . have h1:(z:Int)<=x:=by omega
      have hR:=HN1.out (by first|exact hf|exact h1);subst hR;go_wp2_with (go_at_call 149;(with_reducible refine KB.out.mono ?_);rintro e w2 ⟨rfl,rfl⟩)
      go_ret;exact⟨rfl,rfl⟩
  . obtain rfl:k=n:=by omega
    have hR:=HYE.out HK.out;subst hR;go_wp2;go_ret;exact⟨rfl,rfl⟩
def Zfe(n:Nat)(N:List Int)(D:List (List Int)):Bool:=decide (64<=n) && (frmT N D && hasN n N)
theorem gTakes_is(h:Dk w P p s){v:Value}{q:Int}{N:List Int}{D:List (List Int)}(hv:TxV w v q N D)(B:Bool)(hB:Zfe s.F.length N D=B):
 Calls Tryz.prog 161 #[p,v] w fun e w'=>e=.returned (.bool B)/\Below w.heap.size w w':=by
 have hv':=hv;obtain⟨no,nc,ao,dc,rfl,hN,hD⟩:=hv;have KU:=hid (fun W (hb:Below w.heap.size w W) B hB=>gUsable_is (h.below hb) B hB);have KF:=hid (fun W (hb:Below w.heap.size w W) B hB=>tForm_is (hv'.below hb) B hB);have KH:=hid (fun(hY:frmT N D=true) W (hb:Below w.heap.size w W) B hB=>gHas_is (h.below hb) (hN.below hb).1 (by have:=(Zct hY).1;omega) B hB);obtain⟨bp,rfl⟩:=h.ptr;unfold Zfe at hB;generalize s.F.length=z at KU KH hB;obtain⟨n,hn⟩:∃ n,n=N.length:=⟨_,rfl⟩;obtain⟨m,hm⟩:∃ m,m=D.length:=⟨_,rfl⟩;rw[<- hn,<- hm] at KF;rw[<- hn] at KH;rw[<- hn,<- hm];have hbx:=Zaa w (.cells #[.int .u32 q,.slice no n nc,.slice ao m dc] 183);have hnx:=heap_alloc_new w (.cells #[.int .u32 q,.slice no n nc,.slice ao m dc] 183);clear hN hD hn hm hv' h;go_enter Tryz.func161,Tryz.ntmps161;go_upto_region 1 with(fail)
 generalize w.alloc (.cells #[.int .u32 q,.slice no n nc,.slice ao m dc] 183)=u at hbx hnx |-
 have KU1:=hid (KU.out _ hbx);have KF1:=hid (KF.out _ hbx);have d0:u.cell? ⟨w.heap.size,0,none⟩=some (.int .u32 q):=by rw[cell_of_row _ _ _ _ _ _ hnx];rfl
 have d1:u.cell? ⟨w.heap.size,1,none⟩=some (.slice no n nc):=by rw[cell_of_row _ _ _ _ _ _ hnx];rfl
 have d2:u.cell? ⟨w.heap.size,2,none⟩=some (.slice ao m dc):=by rw[cell_of_row _ _ _ _ _ _ hnx];rfl
 have hzu:w.heap.size<u.heap.size:=(Array.getElem?_eq_some_iff.1 hnx).1;have C1:=hid (fun W (h:Below u.heap.size u W)=>(h.cell (p:=⟨w.heap.size,1,none⟩) hzu).trans d1);have HBT:=hid (fun W (h:Below u.heap.size u W)=>hbx.trans (h.mono hbx.size));clear hnx KU KF hzu hbx;generalize decide (64<=z)=X at hB KU1;obtain⟨Y,hFX⟩:∃ Y,frmT N D=Y:=⟨_,rfl⟩;obtain⟨Z,hHX⟩:∃ Z,hasN z N=Z:=⟨_,rfl⟩;rw[hFX,hHX] at hB;rw[hFX] at KF1;have KH2:=hid (fun hY W hb=>KH.out hY W hb Z hHX);have KU2:=hid (KU1.out X rfl);have KF2:=hid (KF1.out Y rfl);have HFX:=hid hFX;clear KU1 KF1 KH hFX hHX;cases X
 . rw[Bool.false_and] at hB
   subst hB;go_wp2_with (go_at_call 172;(with_reducible refine KU2.out.mono ?_);rintro e w2 ⟨rfl,rfl⟩)
   go_ret;exact⟨rfl,HBT.out _ (Below.refl _ _)⟩
 . cases Y
   . rw[Bool.false_and,Bool.true_and] at hB
     subst hB
     go_wp2_with (first
      |(go_at_call 172;(with_reducible refine KU2.out.mono ?_);rintro e w2 ⟨rfl,rfl⟩)
      |(go_at_call 197;(with_reducible refine KF2.out.mono ?_);rintro e w3 ⟨rfl,hb3⟩))
     go_ret;exact⟨rfl,HBT.out _ hb3⟩
   . rw[Bool.true_and,Bool.true_and] at hB
     subst hB
     go_wp2_with (first
      |(go_at_call 172;(with_reducible refine KU2.out.mono ?_);rintro e w2 ⟨rfl,rfl⟩)
      |(go_at_call 197;(with_reducible refine KF2.out.mono ?_);rintro e w3 ⟨rfl,hb3⟩
        have e1:=C1.out _ hb3;have HB3:=hid (HBT.out _ hb3);clear hb3)
      |(go_at_call 174;(with_reducible refine(KH2.out HFX.out _ HB3.out).mono ?_);rintro e w4 ⟨rfl,rfl⟩))
     go_ret;exact⟨rfl,HB3.out⟩
end
theorem Chg.of_wrote1{w w':World}{g:Nat}(h:Wrote w w' g):Chg (fun b=>b=g) (fun b=>b=g) w w':=
 ⟨h.1,h.2.1,h.2.2.1,Nat.le_of_eq h.2.2.2.1.symm,fun k _ hn=>⟨h.2.2.2.2 k hn,hn⟩⟩
def RowA(w:World)(g:Nat)(P:Nat->Prop)(n:Nat)(D:List (List Int))(k:Nat):Prop:=
 ∃ vs:List Value,vs.length=n/\w.heap[g]? =some (.cells vs.toArray 30 (0,0))/\∀ j,j<k->BSl w (vs.getD j undef) (D.getD j [])/\Apt P (vs.getD j undef)/\Apt (fun b=>b=g) (vs.getD j undef)
theorem RowA.make(w:World)(P:Nat->Prop)(n:Nat)(D:List (List Int)):RowA (w.alloc (.cells (Array.replicate n (Value.slice none 0 0)) 30)) w.heap.size P n D 0:=
 ⟨List.replicate n (Value.slice none 0 0),List.length_replicate,by rw[heap_alloc_new];simp,fun j hj=>absurd hj (Nat.not_lt_zero _)⟩
theorem RowA.row{w:World}{g n:Nat}{P:Nat->Prop}{D:List (List Int)}{k:Nat}(h:RowA w g P n D k):∃ vs:List Value,vs.length=n/\w.heap[g]? =some (.cells vs.toArray 30 (0,0)):=by
 obtain⟨vs,h1,h2,_⟩:=h;exact⟨vs,h1,h2⟩
theorem RowA.below{w w':World}{g n:Nat}{P:Nat->Prop}{D:List (List Int)}{k:Nat}(h:RowA w g P n D k)(hb:Below w.heap.size w w'):RowA w' g P n D k:=by
 obtain⟨vs,h1,h2,h3⟩:=h;have hg:g<w.heap.size:=(Array.getElem?_eq_some_iff.1 h2).1;exact⟨vs,h1,(hb.block g hg).trans h2,fun j hj=>⟨(h3 j hj).1.below hb,(h3 j hj).2⟩⟩
theorem RowA.set{w:World}{g n:Nat}{P:Nat->Prop}{D:List (List Int)}{k:Nat}(h:RowA w g P n D k)(hk:k<n){y:Value}(hy:BSl w y (D.getD k []))(h1:Apt P y)(h2:Apt (fun b=>b=g) y):RowA (w.setCell ⟨g,k,none⟩ y) g P n D (k+1):=by
 obtain⟨vs,e1,e2,e3⟩:=h;have hc:=Chg.of_wrote1 (Wrote.setCell w g k y);refine⟨vs.set k y,by rw[List.length_set];exact e1,bb_set e2 k y,fun j hj=>?_⟩;by_cases e:j=k
 . subst e
   have e4:(vs.set j y).getD j undef=y:=by simp[List.getD_eq_getElem?_getD,e1,hk]
   rw[e4];exact⟨(hy.chg h2 hc).1,h1,h2⟩
 . have e4:(vs.set k y).getD j undef=vs.getD j undef:=by
    rw[List.getD_eq_getElem?_getD,List.getElem?_set_ne (by omega),<- List.getD_eq_getElem?_getD]
   rw[e4];obtain⟨m1,m2,m3⟩:=e3 j (by omega);exact⟨(m1.chg m3 hc).1,m2,m3⟩
theorem RowA.done{w:World}{g n:Nat}{P:Nat->Prop}{D:List (List Int)}(h:RowA w g P n D n)(hD:D.length=n)(hP:¬ P g):BBa w P (.slice (some ⟨g,0,none⟩) n n) D:=by
 obtain⟨vs,h1,h2,h3⟩:=h;subst hD;refine .inr ⟨_,D.length,rfl,Nat.le_refl _,fun j hj=>⟨⟨(Array.getElem?_eq_some_iff.1 h2).1,hP⟩,rfl,vs.getD j undef,?_,(h3 j hj).1,(h3 j hj).2.1⟩⟩;show w.cell? ⟨g,0+j,none⟩=_
 rw[Nat.zero_add,cell_of_row _ _ _ _ _ _ h2];simp[List.getD_eq_getElem?_getD,show j<vs.length by omega]
section
variable {w:World}{P:Nat->Prop}{p:Value}{s:DS}
theorem gJour_of(h:Dk w P p s)(h64:64<=s.F.length)(hd:s.dn=false):
 Calls Tryz.prog 135 #[p] w fun e w'=>∃ ao cap,e=.returned (.tuple #[.slice ao 40 cap,.int .i64 0])/\BBa w' P (.slice ao 40 cap) (jour s.vis)/\Below w.heap.size w w':=by
 have hlt:=fun k hk=>h.lt k hk
 have KU:=hid (gUsable_is h true (decide_eq_true h64));have hjl:(jour s.vis).length=40:=Zcb (by rw[DS.vis_length];omega);have KR:=hid (fun W (hb:Below w.heap.size w W) (k:Nat) (hk:k<40)=>(kRead (h.below hb) (3+k) (by omega) hd));have HJ:=hid (fun(k:Nat) (hk:k<40)=>Zgx s.vis k hk);have HDN:=hid (fun W (hr:RowA W w.heap.size P 40 (jour s.vis) 40)=>hr.done hjl (fun hp=>Nat.lt_irrefl _ (hlt _ hp)));obtain⟨bp,rfl⟩:=h.ptr;obtain⟨D,hD⟩:∃ D,D=jour s.vis:=⟨_,rfl⟩;rw[<- hD] at HJ HDN |-
 have HLT:=hid hlt;have hbx:=Zaa w (.cells (Array.replicate 40 (Value.slice none 0 0)) 30);have hr0:=RowA.make w P 40 D;clear h h64 hd hjl hD hlt;go_enter Tryz.func135,Tryz.ntmps135
 go_wp2_with (first
  |(go_at_call 172;(with_reducible refine KU.out.mono ?_);rintro e w2 ⟨rfl,rfl⟩)
  |(at_make;refine Ziu w rfl _ _ rfl (40:Int) 40 rfl rfl rfl (by omega) ?_))
 generalize w.alloc (.cells (Array.replicate 40 (Value.slice none 0 0)) 30)=w1 at hbx hr0 |-
 have HR0:=hid hr0;have HBX:=hid hbx;obtain⟨g,hg⟩:∃ g,g=w.heap.size:=⟨_,rfl⟩;rw[<- hg] at HR0 HDN |-
 have HG:=hid hg;clear hr0 hbx hg;go_loopw [14] (fun i wr=>∃ k:Nat,k<=40/\i=.int .i64 k/\Hid (RowA wr g P 40 D k)/\Hid (Below w.heap.size w wr)) (fun i _=>40-(intOf i).toNat)
 case atStart=>exact⟨0,by omega,rfl,HR0,HBX⟩
 case round=>
  obtain⟨k,hk,rfl,HR,HB⟩:=hrel;clear HR0 HBX;by_cases hlt:k<40
  . have KC:=hid (KR.out _ HB.out k hlt)
    have ek:(k:Int)<40:=by omega
    have e3:((3+k:Nat):Int)=3+(k:Int):=by push_cast;rfl
    rw[e3] at KC;clear e3
    go_wp2_with (go_at_call 107;(with_reducible refine KC.out.mono ?_);rintro e w2 ⟨y,rfl,hoy,hb2,hy⟩
                 have hsz:=HB.out.size;have hr2:=HR.out.below hb2;have HA1:Hid (Apt P y):=hid (by rw[hy];exact Apt.new (fun hp=>by have:=HLT.out _ hp;omega));have HA2:Hid (Apt (fun b=>b=g) y):=hid (by
                  rw[hy];refine Apt.new (fun hp=>?_);obtain⟨vs,_,hvr⟩:=HR.out.row;have:=(Array.getElem?_eq_some_iff.1 hvr).1;omega)
                 rw[<- HJ.out k hlt] at hoy;obtain⟨yo,yc,hys,_⟩:=hoy.shape;have HY:=hid hoy;subst hys;generalize (D.getD k []).length=yl at HY HA1 HA2 |-
                 clear hy hoy;have HR2:=hid hr2;obtain⟨vs2,hvl2,hvr2⟩:=hr2.row;have hf2:=bb_free hvr2 k;have hc2:∃ z,w2.cell? ⟨g,k,none⟩=some z:=⟨vs2[k]'(by omega),by rw[cell_of_row _ _ _ _ _ _ hvr2];simp[hvl2,hlt]⟩;obtain⟨z,hz⟩:=hc2;have HB2:=hid (HB.out.trans (hb2.mono HB.out.size));clear hr2 hvl2 hvr2 hb2 hsz)
    go_roundw
    case rel=>exact⟨k+1,by omega,by go_num,HR2.out.set hlt HY.out HA1.out HA2.out,(HB2.out.trans ((Wrote.setCell w2 g k _).below (by rw[HG.out];exact Nat.le_refl _)))⟩
    case measure=>simp[intOf];omega
  . obtain rfl:k=40:=by omega
    go_wp2;go_ret2;exact⟨_,_,rfl,HDN.out _ HR.out,HB.out⟩
end
theorem isTxn_one{L:List (List Int)}{q q':Int}{N N':List Int}{D D':List (List Int)}(h:Zkd L q N D)(h':Zkd L q' N' D'):q=q'/\N=N'/\D=D':=by
 obtain⟨rfl,rfl⟩:=isHead_one h.1.2 h'.1.2;exact⟨rfl,rfl,h.2.2.2.1.symm.trans h'.2.2.2.1⟩
theorem isTxn_frm{L:List (List Int)}{q:Int}{N:List Int}{D:List (List Int)}(h:Zkd L q N D):frmT N D=true/\0<=q/\q<4294967296:=by
 obtain⟨⟨h0,hN,⟨q0,q1⟩,_⟩,hl,_,hD,hw⟩:=h;refine⟨?_,q0,q1⟩;rw[Zim,hN,hw,decide_eq_true]
 . rfl
 . rw[<- hD,List.length_take,List.length_drop];omega
def holdsT(n:Nat)(L:List (List Int))(q:Int)(N:List Int)(D:List (List Int)):Prop:=Zkd L q N D/\hasN n N=true
section
variable {w:World}{P:Nat->Prop}{p:Value}{s:DS}
theorem gStored_yes(h:Dk w P p s){v:Value}{L:List (List Int)}(hs:BBSl w v L)(hL:L.length<=1000000){q:Int}{N:List Int}{D:List (List Int)}(ht:holdsT s.F.length L q N D):
 Calls Tryz.prog 136 #[p,v] w fun e w'=>∃ vN vD,e=.returned (.tuple #[.agg #[.int .u32 q,vN,vD],.bool true])/\IR w' 0 vN N/\BBR w' 0 vD D/\Below w.heap.size w w':=by
 obtain⟨ht,hh⟩:=ht;have h37:N.length<=37:=(Zct (isTxn_frm ht).1).1;have hbx:=Zaa w (.cells #[.int .u32 0,.slice none 0 0,.slice none 0 0] 183);have hnx:=heap_alloc_new w (.cells #[.int .u32 0,.slice none 0 0,.slice none 0 0] 183)
 have KU:=hid (fun W (hb:Below w.heap.size w W)=>show Calls Tryz.prog 173 #[v] W fun e w'=>∃ vN vD,e=.returned (.tuple #[.agg #[.int .u32 q,vN,vD],.bool true])/\IR w' 0 vN N/\BBR w' 0 vD D/\Below W.heap.size W w' from
  (Ziz (hs.below hb) hL).mono fun e w' ⟨hb,hc⟩=>by
    rcases hc with⟨q',N',D',vN,vD,ht',he,h1,h2⟩| ⟨hno,_⟩
    . obtain⟨rfl,rfl,rfl⟩:=isTxn_one ht ht'
      exact⟨vN,vD,he,h1,h2,hb⟩
    . exact absurd ht (hno _ _ _))
 have KH:=hid (fun W (hb:Below w.heap.size w W) vN (hN:IR W 0 vN N)=>gHas_is (h.below hb) hN.sl (by omega) true hh);obtain⟨bp,rfl⟩:=h.ptr;obtain⟨vo,vc,rfl,_⟩:=hs.shape;generalize L.length=y at KU |-
 clear h hs hL ht hh h37;go_enter Tryz.func136,Tryz.ntmps136;go_upto_region 1 with(fail)
 have hzu:w.heap.size<(w.alloc (.cells #[.int .u32 0,.slice none 0 0,.slice none 0 0] 183)).heap.size:=by simp
 generalize w.alloc (.cells #[.int .u32 0,.slice none 0 0,.slice none 0 0] 183)=w1 at hbx hnx hzu |-
 go_wp2_with (first
  |(go_at_call 173;(with_reducible refine(KU.out _ hbx).mono ?_);rintro e w2 ⟨vN,vD,rfl,hN2,hD2,hb2⟩
    obtain⟨_,no,nc,rfl,_⟩:=hN2.isc;obtain⟨ao,dc,rfl,_⟩:=hD2.sl.shape;have hns:=heap_alloc_new w2 (.cells #[.int .u32 0,.slice none 0 0,.slice none 0 0] 183);have hbs:=Zaa w2 (.cells #[.int .u32 0,.slice none 0 0,.slice none 0 0] 183);have HN3:=hid (hN2.below hbs);have HD3:=hid (hD2.below hbs);have HB2:=hid hb2;generalize hnn:N.length=n at HN3 |-
    generalize hmm:D.length=m at HD3 |-
    clear hN2 hD2 hnn hmm)
  |(with_reducible refine Zag rfl 183 Zeb (.tmp 6) (.tmp 11) rfl w2.heap.size rfl _ _ _ _ _ _ rfl rfl rfl rfl _ hns ?_;intro w4 hw4 hr4
    have hb4:=hbs.trans (hw4.below (Nat.le_refl _));have hb14:=HB2.out.trans (hb4.mono HB2.out.size);have hr0:=hold9 hnx hb14;have HB4:=hid (hbx.trans (hb14.mono hbx.size));have x0:w4.cell? ⟨w2.heap.size,0,none⟩=some (.int .u32 q):=by rw[cell_of_row _ _ _ _ _ _ hr4];rfl
    have x1:w4.cell? ⟨w2.heap.size,1,none⟩=some (.slice no n nc):=by rw[cell_of_row _ _ _ _ _ _ hr4];rfl
    have x2:w4.cell? ⟨w2.heap.size,2,none⟩=some (.slice ao m dc):=by rw[cell_of_row _ _ _ _ _ _ hr4];rfl
    have HN4:=hid (HN3.out.wrote hw4 hns (by decide));have HD4:=hid (HD3.out.wrote hw4 (Nat.zero_le _) hns (by decide) (by decide));clear hns hbs hw4 hb4 hb14 HN3 HD3 hr4)
  |(go_at_call 174;(with_reducible refine(KH.out _ HB4.out _ HN4.out).mono ?_);rintro e w5 ⟨rfl,rfl⟩)
  |(with_reducible refine Zag rfl 183 Zeb (.tmp 4) (.tmp 23) rfl w.heap.size rfl _ _ _ _ _ _ rfl rfl rfl rfl _ hr0 ?_;intro w9 hw9 hr9))
 refine bodyPost_ret (Zbj rfl Tryz.underlying183 Zeb _ _ w.heap.size _ _ _ _ _ rfl hr9 rfl) rfl ⟨_,_,rfl,?_,?_,HB4.out.trans (hw9.below (Nat.le_refl _))⟩
 . exact HN4.out.wrote hw9 hr0 (by decide)
 . exact HD4.out.wrote hw9 (Nat.zero_le _) hr0 (by decide) (by decide)
theorem gStored_no(h:Dk w P p s){v:Value}{L:List (List Int)}(hs:BBSl w v L)(hL:L.length<=1000000)(hno:∀ q N D,¬ holdsT s.F.length L q N D):
 Calls Tryz.prog 136 #[p,v] w fun e w'=>e=.returned (.tuple #[.agg #[.int .u32 0,.slice none 0 0,.slice none 0 0],.bool false])/\Below w.heap.size w w':=by
 by_cases hex:∃ q N D,Zkd L q N D
 . obtain⟨q,N,D,ht⟩:=hex
   have hh:hasN s.F.length N=false:=by
    cases e:hasN s.F.length N
    . rfl
    . exact absurd ⟨ht,e⟩ (hno q N D)
   have h37:N.length<=37:=(Zct (isTxn_frm ht).1).1;have hbx:=Zaa w (.cells #[.int .u32 0,.slice none 0 0,.slice none 0 0] 183);have hnx:=heap_alloc_new w (.cells #[.int .u32 0,.slice none 0 0,.slice none 0 0] 183)
   have KU:=hid (fun W (hb:Below w.heap.size w W)=>show Calls Tryz.prog 173 #[v] W fun e w'=>∃ vN vD,e=.returned (.tuple #[.agg #[.int .u32 q,vN,vD],.bool true])/\IR w' 0 vN N/\BBR w' 0 vD D/\Below W.heap.size W w' from
    (Ziz (hs.below hb) hL).mono fun e w' ⟨hb,hc⟩=>by
      rcases hc with⟨q',N',D',vN,vD,ht',he,h1,h2⟩| ⟨hno,_⟩
      . obtain⟨rfl,rfl,rfl⟩:=isTxn_one ht ht'
        exact⟨vN,vD,he,h1,h2,hb⟩
      . exact absurd ht (hno _ _ _))
   have KH:=hid (fun W (hb:Below w.heap.size w W) vN (hN:IR W 0 vN N)=>gHas_is (h.below hb) hN.sl (by omega) false hh);obtain⟨bp,rfl⟩:=h.ptr;obtain⟨vo,vc,rfl,_⟩:=hs.shape;generalize L.length=y at KU |-
   clear h hs hL ht hh h37 hno;go_enter Tryz.func136,Tryz.ntmps136;go_upto_region 1 with(fail)
   have hzu:w.heap.size<(w.alloc (.cells #[.int .u32 0,.slice none 0 0,.slice none 0 0] 183)).heap.size:=by simp
   generalize w.alloc (.cells #[.int .u32 0,.slice none 0 0,.slice none 0 0] 183)=w1 at hbx hnx hzu |-
   go_wp2_with (first
    |(go_at_call 173;(with_reducible refine(KU.out _ hbx).mono ?_);rintro e w2 ⟨vN,vD,rfl,hN2,hD2,hb2⟩
      obtain⟨_,no,nc,rfl,_⟩:=hN2.isc;obtain⟨ao,dc,rfl,_⟩:=hD2.sl.shape;have hns:=heap_alloc_new w2 (.cells #[.int .u32 0,.slice none 0 0,.slice none 0 0] 183);have hbs:=Zaa w2 (.cells #[.int .u32 0,.slice none 0 0,.slice none 0 0] 183);have HN3:=hid (hN2.below hbs);have HB2:=hid hb2;generalize hnn:N.length=n at HN3 |-
      generalize hmm:D.length=m at |-
      clear hN2 hD2 hnn hmm)
    |(with_reducible refine Zag rfl 183 Zeb (.tmp 6) (.tmp 11) rfl w2.heap.size rfl _ _ _ _ _ _ rfl rfl rfl rfl _ hns ?_;intro w4 hw4 hr4
      have hb4:=hbs.trans (hw4.below (Nat.le_refl _));have hb14:=HB2.out.trans (hb4.mono HB2.out.size);have hr0:=hold9 hnx hb14;have HB4:=hid (hbx.trans (hb14.mono hbx.size));have x1:w4.cell? ⟨w2.heap.size,1,none⟩=some (.slice no n nc):=by rw[cell_of_row _ _ _ _ _ _ hr4];rfl
      have HN4:=hid (HN3.out.wrote hw4 hns (by decide));clear hns hbs hw4 hb4 hb14 HN3 hr4)
    |(go_at_call 174;(with_reducible refine(KH.out _ HB4.out _ HN4.out).mono ?_);rintro e w5 ⟨rfl,rfl⟩)
    |(with_reducible refine Zag rfl 183 Zeb (.tmp 4) (.tmp 22) rfl w.heap.size rfl _ _ _ _ _ _ rfl rfl rfl rfl _ hr0 ?_;intro w9 hw9 hr9))
   refine bodyPost_ret (Zbj rfl Tryz.underlying183 Zeb _ _ w.heap.size _ _ _ _ _ rfl hr9 rfl) rfl ⟨rfl,HB4.out.trans (hw9.below (Nat.le_refl _))⟩
 . have hn2:∀ q N D,¬ Zkd L q N D:=fun q N D ht=>hex ⟨q,N,D,ht⟩
   have hbx:=Zaa w (.cells #[.int .u32 0,.slice none 0 0,.slice none 0 0] 183);have hnx:=heap_alloc_new w (.cells #[.int .u32 0,.slice none 0 0,.slice none 0 0] 183)
   have KU:=hid (fun W (hb:Below w.heap.size w W)=>show Calls Tryz.prog 173 #[v] W fun e w'=>e=.returned (.tuple #[.agg #[.int .u32 0,.slice none 0 0,.slice none 0 0],.bool false])/\Below W.heap.size W w' from
    (Ziz (hs.below hb) hL).mono fun e w' ⟨hb,hc⟩=>by
      rcases hc with⟨q',N',D',vN,vD,ht',he,h1,h2⟩| ⟨_,he⟩
      . exact absurd ht' (hn2 _ _ _)
      . exact⟨he,hb⟩)
   obtain⟨bp,rfl⟩:=h.ptr;obtain⟨vo,vc,rfl,_⟩:=hs.shape;generalize L.length=y at KU |-
   clear h hs hL hno hn2 hex;go_enter Tryz.func136,Tryz.ntmps136;go_upto_region 1 with(fail)
   generalize w.alloc (.cells #[.int .u32 0,.slice none 0 0,.slice none 0 0] 183)=w1 at hbx hnx |-
   go_wp2_with (first
    |(go_at_call 173;(with_reducible refine(KU.out _ hbx).mono ?_);rintro e w2 ⟨rfl,hb2⟩
      have hns:=heap_alloc_new w2 (.cells #[.int .u32 0,.slice none 0 0,.slice none 0 0] 183);have hbs:=Zaa w2 (.cells #[.int .u32 0,.slice none 0 0,.slice none 0 0] 183);have HB2:=hid hb2)
    |(with_reducible refine Zag rfl 183 Zeb (.tmp 6) (.tmp 11) rfl w2.heap.size rfl _ _ _ _ _ _ rfl rfl rfl rfl _ hns ?_;intro w4 hw4 hr4
      have hb4:=hbs.trans (hw4.below (Nat.le_refl _));have hb14:=HB2.out.trans (hb4.mono HB2.out.size);have hr0:=hold9 hnx hb14;have HB4:=hid (hbx.trans (hb14.mono hbx.size));clear hns hbs hw4 hb4 hb14 hr4)
    |(with_reducible refine Zag rfl 183 Zeb (.tmp 4) (.tmp 22) rfl w.heap.size rfl _ _ _ _ _ _ rfl rfl rfl rfl _ hr0 ?_;intro w9 hw9 hr9))
   refine bodyPost_ret (Zbj rfl Tryz.underlying183 Zeb _ _ w.heap.size _ _ _ _ _ rfl hr9 rfl) rfl ⟨rfl,HB4.out.trans (hw9.below (Nat.le_refl _))⟩
end
end Go.Proofs.YtedabomlfcghoaaGreat
