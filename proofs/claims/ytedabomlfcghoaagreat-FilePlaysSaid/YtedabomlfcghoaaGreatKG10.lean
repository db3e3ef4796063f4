/- What the law rests on: part 10. -/
import Derived.Laws.StructEq
import Derived.Test.YtedabomlfcghoaaGreatKG9
set_option linter.unusedVariables false
namespace Go.Proofs.YtedabomlfcghoaaGreat
set_option maxRecDepth 100000
open Go.RowKit
def eqO(A B:List (List Int)):Prop:=A.length=B.length/\∀ i,OutJ i->i<B.length->A.getD i []=B.getD i []
theorem eqO.refl(A:List (List Int)):eqO A A:=⟨rfl,fun _ _ _=>rfl⟩
theorem eqO.trans{A B C:List (List Int)}(h:eqO A B)(k:eqO B C):eqO A C:=⟨h.1.trans k.1,fun i ho hi=>(h.2 i ho (by rw[k.1];exact hi)).trans (k.2 i ho hi)⟩
def okT(n:Nat)(N:List Int)(D:List (List Int)):Prop:=frmT N D=true/\hasN n N=true/\inJS N=false
theorem okT.far{n:Nat}{N:List Int}{D:List (List Int)}(h:okT n N D):farT n N:=far_of h.1 h.2.1 h.2.2 (Nat.le_refl _)
theorem okT.takes{n:Nat}{N:List Int}{D:List (List Int)}(h:okT n N D)(h64:64<=n):Zfe n N D=true:=by
 unfold Zfe;rw[decide_eq_true h64,h.1,h.2.1];rfl
theorem appU_eqO{N:List Int}{D A B:List (List Int)}(hF:frmT N D=true)(h:eqO A B):eqO (appU (Zat N D) A) (appU (Zat N D) B):=by
 refine⟨by rw[Zaj,Zaj];exact h.1,fun i ho hi=>?_⟩;rw[Zaj] at hi;exact home_all hF A B h.1 i hi (.inl (h.2 i ho hi))
def Jst(n:Nat)(F G:List (List Int)):Prop:=
 F.length=n/\G.length=n/\((∃ q N D Z,okT n N D/\InvT F q N D Z/\eqO (appU (Zat N D) Z) G)\/InvN F G)
def Lst(n:Nat)(s:DS)(G:List (List Int)):Prop:=
 s.F.length=n/\eqO s.vis G/\((∃ q N D Z,okT n N D/\InvT s.F q N D Z/\(∀ x∈s.U,x∈Zat N D)/\eqO (appU (Zat N D) Z) G)\/(InvN s.F G/\s.U=[]))
theorem InvN.toO{F G G':List (List Int)}(h:InvN F G)(k:eqO G G'):InvN F G':=⟨h.1.trans k.1,h.2.1,fun i ho hi=>(h.2.2 i ho (by rw[k.1];exact hi)).trans (k.2 i ho hi)⟩
theorem Jst.toO{n:Nat}{F G G':List (List Int)}(h:Jst n F G)(k:eqO G G'):Jst n F G':=by
 obtain⟨h1,h2,h3⟩:=h;refine⟨h1,k.1.symm.trans h2,h3.imp (fun⟨q,N,D,Z,a,b,c⟩=>⟨q,N,D,Z,a,b,c.trans k⟩) (fun h=>h.toO k)⟩
theorem Lst.toO{n:Nat}{s:DS}{G G':List (List Int)}(h:Lst n s G)(k:eqO G G'):Lst n s G':=by
 obtain⟨h1,h2,h3⟩:=h;exact⟨h1,h2.trans k,h3.imp (fun⟨q,N,D,Z,a,b,c,e⟩=>⟨q,N,D,Z,a,b,c,e.trans k⟩) (fun h=>⟨h.1.toO k,h.2⟩)⟩
theorem Lst.glen{n:Nat}{s:DS}{G:List (List Int)}(h:Lst n s G):G.length=n:=by rw[<- h.2.1.1,DS.vis_length,h.1]
theorem Lst.pay{n:Nat}{s:DS}{G:List (List Int)}(h:Lst n s G):Lst n s.pay G:=h
theorem Lst.crash{n:Nat}{s:DS}{G:List (List Int)}(h:Lst n s G)(h43:43<=n)(kp:Nat->Bool):Jst n (appU (Zdd kp s.U) s.F) G:=by
 have hg:=h.glen;obtain⟨h1,h2,h3⟩:=h;refine⟨by rw[Zaj];exact h1,hg,?_⟩;rcases h3 with⟨q,N,D,Z,a,b,c,e⟩| ⟨a,b⟩
 . have hz:Z.length=n:=b.1.symm.trans h1
   exact .inl ⟨q,N,D,Z,a,b.home a.1 (by rw[hz];exact a.far) (by omega) fun x hx=>c x (Zgh hx),e⟩
 . rw[b]
   exact .inr a
theorem layN_crash{q2:Int}{N2:List Int}{D2 G:List (List Int)}(hG:43<=G.length){W:List (Nat × List Int)}(hW:layW q2 N2 D2 W)(hF2:frmT N2 D2=true)(hq2:0<=q2/\q2<4294967296)(s:DS)(hs:InvN s.F G)(hU:s.U=[])(kp:Nat->Bool):
 let r:=runA (layA q2 W) s
 (InvN (appU (Zdd kp r.2.U) r.2.F) G/\r.1=2\/InvT (appU (Zdd kp r.2.U) r.2.F) q2 N2 D2 G)/\
   (r.1=0->r.2.U=[]/\InvT r.2.F q2 N2 D2 G/\∀ i,OutJ i->i<G.length->r.2.F.getD i []=G.getD i []):=by
 intro r;obtain⟨k,hk,hfu,hr⟩:=Zgu (layA q2 W) s;have hrF:r.2.F=(Zgm ((layA q2 W).take k) s.fuP).1:=congrArg Prod.fst hfu;have hrU:r.2.U=(Zgm ((layA q2 W).take k) s.fuP).2:=congrArg Prod.snd hfu;have hlen:(layA q2 W).length=6+W.length:=by simp[layA];omega
 have hfl:=hs.1;obtain⟨V0,hV0⟩:∃ V0,V0=s.F:=⟨_,rfl⟩;have hfu0:s.fuP=(V0,[]):=by rw[hV0,<- hU];rfl
 have hN0:InvN V0 G:=by rw[hV0];exact hs
 rw[hfu0] at hrF hrU;obtain⟨V1,hV1⟩:∃ V1,V1=V0.set 42 z256:=⟨_,rfl⟩;have hV0l:V0.length=G.length:=hN0.1;have hV1l:V1.length=G.length:=by rw[hV1,List.length_set,hV0l]
 have out42:∀ i,OutJ i->42≠i:=fun i hi e=>by rcases hi with h|h <;> omega
 have hN1:InvN V1 G:=⟨hV1l,by rw[hV1];exact set_same _ _ _ (by omega),fun i hi hl=>by rw[hV1,Zec _ _ _ _ (out42 i hi)];exact hN0.2.2 i hi hl⟩;have hWN:∀ X,(∀ x∈X,x∈W)->InvN (appU X V1) G:=fun X hX=>by
  refine⟨by rw[Zaj,hV1l],?_,fun i hi hl=>?_⟩
  . rw[Zbd X V1 42 fun x hx e=>by have:=(hW.1 x (hX x hx)).2;omega];exact hN1.2.1
  . rw[Zbd X V1 i fun x hx e=>by have:=hW.1 x (hX x hx);rcases hi with h|h <;> omega]
    exact hN1.2.2 i hi hl
 obtain⟨V2,hV2⟩:∃ V2,V2=appU W V1:=⟨_,rfl⟩;have hV2l:V2.length=G.length:=by rw[hV2,Zaj,hV1l]
 have hN2:InvN V2 G:=by rw[hV2];exact hWN W fun x hx=>hx
 obtain⟨V3,hV3⟩:∃ V3,V3=V2.set 42 (Zal (endL q2)):=⟨_,rfl⟩;have hV3l:V3.length=G.length:=by rw[hV3,List.length_set,hV2l]
 obtain⟨hd,hbl⟩:=hW.2 V1 (by omega);have h37:=(Zct hF2).1;have hT3:Zkd (jour V3) q2 N2 D2:=by
  refine jour_txn (by omega) hF2 hq2 ?_ (fun j hj=>?_) ?_
  . rw[hV3,Zec _ _ _ _ (by omega),hV2];exact hd
  . rw[hV3,Zec _ _ _ _ (by omega),hV2];exact hbl j hj
  . rw[hV3];exact set_same _ _ _ (by omega)
 have hV3o:∀ i,OutJ i->i<G.length->V3.getD i []=G.getD i []:=fun i hi hl=>by rw[hV3,Zec _ _ _ _ (out42 i hi)];exact hN2.2.2 i hi hl
 have hI3:InvT V3 q2 N2 D2 G:=⟨hV3l,hT3,fun i hi hl=>.inl (hV3o i hi hl)⟩;have a1:Zgm [.f,.w 42 z256,.f] (V0,[])=(V1,[]):=by
  show(appU ([] ++ [(42,z256)]) (appU [] V0),([]:List (Nat × List Int)))=(V1,[])
  rw[hV1];rfl
 have full:k=(layA q2 W).length->r.2.F=V3/\r.2.U=[]:=fun e=>by
  rw[hrF,hrU,e,List.take_length];unfold layA;rw[Zam,Zam,Zem,a1];show(appU ([] ++ [(42,Zal (endL q2))]) (appU ([] ++ W) V1))=V3/\_
  rw[hV3,hV2];exact⟨rfl,rfl⟩
 refine⟨?_,fun h0=>?_⟩
 . have hcase:k=0\/k=1\/k=2\/(3<=k/\k<=3+W.length)\/k=4+W.length\/k=5+W.length\/k=6+W.length:=by omega
   have h2:k≠(layA q2 W).length->r.1=2:=fun hne=>by
    rcases hr with⟨_,h⟩|h
    . exact absurd h hne
    . exact h
   have step:∀ j,(layA q2 W).take (3+j)=([PA.f,PA.w 42 z256,PA.f]:List PA) ++ ((W.map fun y:Nat × List Int=>PA.w y.1 y.2) ++ [PA.f,PA.w 42 (Zal (endL q2)),PA.f]).take j:=fun j=>by
    unfold layA;rw[List.append_assoc];exact List.take_length_add_append (l₁:=([PA.f,PA.w 42 z256,PA.f]:List PA)) j
   rcases hcase with rfl|rfl|rfl| ⟨ha,hb⟩|rfl|rfl|rfl
   . have e1:r.2.F=V0:=hrF
     have e2:r.2.U=[]:=hrU;rw[e1,e2];exact .inl ⟨hN0,h2 (by omega)⟩
   . have e1:r.2.F=V0:=hrF
     have e2:r.2.U=[]:=hrU;rw[e1,e2];exact .inl ⟨hN0,h2 (by omega)⟩
   . have e1:r.2.F=V0:=hrF
     have e2:r.2.U=[(42,z256)]:=hrU;rw[e1,e2];rcases Zkc kp (42,z256) with e|e
     . rw[e];exact .inl ⟨hN0,h2 (by omega)⟩
     . rw[e]
       refine .inl ⟨?_,h2 (by omega)⟩;show InvN (V0.set 42 z256) G
       rw[<- hV1];exact hN1
   . obtain⟨j,rfl⟩:∃ j,k=3+j:=⟨k-3,by omega⟩
     have hj:j<=W.length:=by omega
     rw[step,List.take_append_of_le_length (by simpa using hj),<- List.map_take,Zam,a1,Zem] at hrF hrU;rw[hrF,hrU];refine .inl ⟨hWN _ fun x hx=>?_,h2 (by omega)⟩;have:=Zgh hx;rw[List.nil_append] at this;exact List.mem_of_mem_take this
   . have e0:(layA q2 W).take (4+W.length)=[.f,.w 42 z256,.f] ++ ((W.map fun y=>PA.w y.1 y.2) ++ [.f]):=by
      rw[show 4+W.length=3+(W.length+1) by omega,step];congr 1;rw[show W.length+1=(W.map fun y=>PA.w y.1 y.2).length+1 by simp,List.take_length_add_append];rfl
     rw[e0,Zam,Zam,a1,Zem] at hrF hrU;have e1:r.2.F=V2:=by rw[hV2];exact hrF
     have e2:r.2.U=[]:=hrU;rw[e1,e2];exact .inl ⟨hN2,h2 (by omega)⟩
   . have e0:(layA q2 W).take (5+W.length)=[.f,.w 42 z256,.f] ++ ((W.map fun y=>PA.w y.1 y.2) ++ [.f,.w 42 (Zal (endL q2))]):=by
      rw[show 5+W.length=3+(W.length+2) by omega,step];congr 1;rw[show W.length+2=(W.map fun y=>PA.w y.1 y.2).length+2 by simp,List.take_length_add_append];rfl
     rw[e0,Zam,Zam,a1,Zem] at hrF hrU;have e1:r.2.F=V2:=by rw[hV2];exact hrF
     have e2:r.2.U=[(42,Zal (endL q2))]:=hrU;rw[e1,e2];rcases Zkc kp (42,Zal (endL q2)) with e|e
     . rw[e];exact .inl ⟨hN2,h2 (by omega)⟩
     . rw[e]
       refine .inr ?_;show InvT (V2.set 42 (Zal (endL q2))) q2 N2 D2 G
       rw[<- hV3];exact hI3
   . obtain⟨e1,e2⟩:=full (by omega)
     rw[e1,e2];exact .inr hI3
 . have hkk:k=(layA q2 W).length:=by
    rcases hr with⟨_,h⟩|h
    . exact h
    . have h0':(runA (layA q2 W) s).1=0:=h0
      rw[h0'] at h;cases h
   obtain⟨e1,e2⟩:=full hkk;rw[e1,e2];exact⟨rfl,hI3,hV3o⟩
def Mst(n:Nat)(s:DS)(q:Int)(N:List Int)(D G:List (List Int)):Prop:=s.U=[]/\s.F.length=n/\InvT s.F q N D G/\eqO s.F G
theorem Lst.write{n:Nat}{s:DS}{G:List (List Int)}(h:Lst n s G)(h43:43<=n){q:Int}{N:List Int}{D:List (List Int)}(hT:okT n N D)(hq:0<=q/\q<4294967296):
 let r:=runA (layA q (Zdn q N D)) s
 (∀ kp,r.1=2->Jst n (appU (Zdd kp r.2.U) r.2.F) G\/Jst n (appU (Zdd kp r.2.U) r.2.F) (appU (Zat N D) G))/\(r.1=0->Mst n r.2 q N D G):=by
 intro r;have hg:=h.glen;obtain⟨h1,h2,h3⟩:=h;have hl:r.2.F.length=n:=(Zdw _ s).1.trans h1;have hal:∀ kp,(appU (Zdd kp r.2.U) r.2.F).length=n:=fun kp=>by rw[Zaj,hl]
 have hGn:(appU (Zat N D) G).length=n:=by rw[Zaj,hg]
 rcases h3 with⟨q1,N1,D1,Z,a,b,c,e⟩| ⟨a,b⟩
 . have hz:Z.length=n:=b.1.symm.trans h1
   have hvis:∀ i,OutJ i->i<Z.length->s.vis.getD i []=(appU (Zat N1 D1) Z).getD i []:=fun i ho hi=>by
    rw[hz] at hi;exact(h2.2 i ho (by omega)).trans (e.2 i ho (by omega)).symm
   have key:=fun kp=>lay_crash (q1:=q1) (q2:=q) (by omega) (layW_of hT.1) a.1 (by rw[hz];exact a.far) hT.1 hq s b c hvis kp
   refine⟨fun kp h2'=>?_,fun h0=>?_⟩
   . rcases(key kp).1 with⟨k1,_⟩| ⟨k1,_⟩|k1
     . exact .inl ⟨hal kp,hg,.inl ⟨q1,N1,D1,Z,a,k1,e⟩⟩
     . exact .inl ⟨hal kp,hg,.inr (k1.toO e)⟩
     . exact .inr ⟨hal kp,hGn,.inl ⟨q,N,D,_,hT,k1,appU_eqO hT.1 e⟩⟩
   . obtain⟨k1,k2,k3⟩:=(key fun _=>true).2 h0
     have hge:eqO r.2.F G:=⟨by rw[hl,hg],fun i ho hi=>(k3 i ho (by omega)).trans (e.2 i ho hi)⟩;refine⟨k1,hl,⟨by rw[hl,hg],k2.2.1,fun i ho hi=>.inl (hge.2 i ho hi)⟩,hge⟩
 . have key:=fun kp=>layN_crash (q2:=q) (by omega) (layW_of hT.1) hT.1 hq s a b kp
   refine⟨fun kp h2'=>?_,fun h0=>?_⟩
   . rcases(key kp).1 with⟨k1,_⟩|k1
     . exact .inl ⟨hal kp,hg,.inr k1⟩
     . exact .inr ⟨hal kp,hGn,.inl ⟨q,N,D,_,hT,k1,eqO.refl _⟩⟩
   . obtain⟨k1,k2,k3⟩:=(key fun _=>true).2 h0
     exact⟨k1,hl,k2,⟨by rw[hl,hg],fun i ho hi=>k3 i ho hi⟩⟩
theorem Mst.home{n:Nat}{s:DS}{q:Int}{N:List Int}{D G:List (List Int)}(h:Mst n s q N D G)(h43:43<=n)(hT:okT n N D):
 let r:=runA (Zap N D) s
 (∀ kp,Jst n (appU (Zdd kp r.2.U) r.2.F) (appU (Zat N D) G))/\(r.1=0->Lst n r.2 (appU (Zat N D) G)):=by
 intro r;obtain⟨h1,h2,h3,h4⟩:=h;have hg:G.length=n:=h4.1.symm.trans h2;have hl:r.2.F.length=n:=(Zdw _ s).1.trans h2;have key:∀ kp,InvT (appU (Zdd kp r.2.U) r.2.F) q N D G:=fun kp=>by
  have:=(home_crash hT.1 (by rw[hg];exact hT.far) (by omega) s h3 (by rw[h1];intro x hx;cases hx) false kp).1;rw[show(if (false:Bool)=true then [PA.f] else [])=[] from rfl,List.append_nil] at this;exact this
 refine⟨fun kp=>⟨by rw[Zaj,hl],by rw[Zaj,hg],.inl ⟨q,N,D,G,hT,key kp,eqO.refl _⟩⟩,fun h0=>?_⟩;obtain⟨k,hk,hfu,hr⟩:=Zgu (Zap N D) s;have hkk:k=(Zap N D).length:=by
  rcases hr with⟨_,h⟩|h
  . exact h
  . have h0':(runA (Zap N D) s).1=0:=h0
    rw[h0'] at h;cases h
 have hrF:r.2.F=(Zgm ((Zap N D).take k) s.fuP).1:=congrArg Prod.fst hfu;have hrU:r.2.U=(Zgm ((Zap N D).take k) s.fuP).2:=congrArg Prod.snd hfu;rw[hkk,Zin] at hrF hrU;have e3:(Zat N D).take (Zap N D).length=Zat N D:=List.take_of_length_le (by simp[Zap]);rw[e3] at hrU;have e1:r.2.F=s.F:=hrF;have e2:r.2.U=Zat N D:=by rw[hrU];show s.U ++ _=_;rw[h1,List.nil_append]
 refine⟨hl,?_,.inl ⟨q,N,D,G,hT,by rw[e1];exact h3,(fun x hx=>by rw[e2] at hx;exact hx),eqO.refl _⟩⟩;show eqO (appU r.2.U r.2.F) _
 rw[e1,e2];exact appU_eqO hT.1 h4
theorem run_fu(a:PA)(s:DS):(a.run s).fu=s.fu:=by cases a <;> rfl
theorem runA_fu:∀ (A:List PA) (s:DS),(runA A s).2.fu=s.fu
 |[],s=>rfl
 |a :: A,s=>by
  rw[Zby];split
  . exact(runA_fu A _).trans (run_fu a s)
  . rfl
theorem recover_any{w:World}{P:Nat->Prop}{p:Value}{s:DS}(h:Dk w P p s){n:Nat}{G:List (List Int)}(h64:64<=n)(hU:s.U=[])(hd:s.dn=false)(hJ:Jst n s.F G):
 Calls Tryz.prog 89 #[p] w fun e w'=>∃ x r s' P',e=.returned (.tuple #[.int .u32 x,.int .i64 r])/\Dk w' P' p s'/\Chg P P' w w'/\s'.U.length<=1000/\s'.F.length=n/\(r=0\/r=2)/\(∀ k,Jst n (s'.crash k).F G)/\(r=0->s'.dn=false/\s'.U=[]/\Lst n s' G)/\(s.fu=false->r=0)/\(0<=x/\x<4294967296)/\s'.fu=s.fu:=by
 have hJ':=hJ;obtain⟨hFl,hg,hI⟩:=hJ;have hv:=Zjn hU;have hU0:s.U.length<=900000:=by rw[hU];show 0<=900000;omega
 have hpw:∀ (A:List PA) (t:DS),(runA A t).1=0->t.dn=false->(runA A t).2.dn=false:=by
  intro A;induction A with
  |nil=>intro t _ h;exact h
  |cons a A ih=>
   intro t h0 hdn;rw[Zby] at h0 |-
   cases hok:t.ok
   . rw[hok,if_neg Bool.false_ne_true] at h0
     exact absurd (show(2:Int)=0 from h0) (by decide)
   . rw[hok,if_pos rfl] at h0
     rw[if_pos rfl];refine ih _ h0 ?_;have:pDn t.fu t.le t.dn=false:=by
      unfold DS.ok pOk at hok;unfold pDn
      revert hok
      rw[hdn];cases t.fu <;> simp
     cases a <;> exact this
 rcases hI with⟨q,N,D,Z,hT,hI,he⟩|hN
 . have hz:Z.length=n:=hI.1.symm.trans hFl
   have l37:=(Zct hT.1).1;have hc:∀ kp,InvT (appU (Zdd kp (runA (Zap N D ++ [.f]) s).2.U) (runA (Zap N D ++ [.f]) s).2.F) q N D Z/\InvT (runA (Zap N D ++ [.f]) s).2.F q N D Z/\(∀ x∈(runA (Zap N D ++ [.f]) s).2.U,x∈Zat N D):=fun kp=>home_crash hT.1 (by rw[hz];exact hT.far) (by omega) s hI (by rw[hU];intro x hx;cases hx) true kp
   have hlen:=Zdw (Zap N D ++ [.f]) s;rw[List.length_append,Zcy,hU] at hlen;have hfree:=fun h1=>Zjq (Zap N D ++ [.f]) s h1 hd
   refine(gRecover_yes h (by omega) hd hU0 (q:=q) (N:=N) (D:=D) ⟨by rw[hv];exact hI.2.1,by rw[hFl];exact hT.2.1⟩).mono ?_;rintro e w' ⟨x,rfl,⟨P',hk,hcg⟩,_,hx2⟩;refine⟨x,_,_,P',rfl,hk,hcg,by have:=hlen.2;simp at this;omega,hlen.1.trans hFl,Zdv _ _,fun k=>⟨by show(appU _ _).length=n;rw[Zaj,hlen.1,hFl],hg,.inl ⟨q,N,D,Z,hT,(hc (kpOf k)).1,he⟩⟩,fun h0=>?_,fun h1=>(hfree h1).1,hx2,runA_fu _ _⟩;obtain⟨k,hk',hfu,hr⟩:=Zgu (Zap N D ++ [.f]) s;have hkk:k=(Zap N D ++ [PA.f]).length:=by
    rcases hr with⟨_,h⟩|h
    . exact h
    . rw[h0] at h;cases h
   rw[hkk,List.take_length,Zam] at hfu;have e2:=Zin N D (Zap N D).length s.fuP;rw[List.take_length] at e2;have e3:(Zat N D).take (Zap N D).length=Zat N D:=List.take_of_length_le (by simp[Zap]);rw[e3] at e2;rw[e2] at hfu;have a1:(runA (Zap N D ++ [.f]) s).2.F=appU (s.U ++ Zat N D) s.F:=congrArg Prod.fst hfu;have a2:(runA (Zap N D ++ [.f]) s).2.U=[]:=congrArg Prod.snd hfu;rw[hU,List.nil_append] at a1;refine⟨hpw _ _ h0 hd,a2,hlen.1.trans hFl,?_,.inl ⟨q,N,D,Z,hT,(hc fun _=>true).2.1,(fun x hx=>by rw[a2] at hx;cases hx),he⟩⟩;rw[Zjn a2,a1];exact eqO.trans ⟨by rw[Zaj,Zaj,hFl,hz],fun i ho hi=>hI.done hT.1 i ho (by rw[Zaj] at hi;exact hi)⟩ he
 . have hno:∀ q N D,¬ holdsT s.F.length (jour s.vis) q N D:=fun q N D ht=>jour_zero (by rw[DS.vis_length];omega) (by rw[hv];exact hN.2.1) q N D ht.1
   have hst:(runA ([] ++ [.f]) s).2.F=s.F/\(runA ([] ++ [.f]) s).2.U=[]:=by
    rw[List.nil_append,Zby];cases hok:s.ok
    . rw[if_neg Bool.false_ne_true]
      exact⟨rfl,hU⟩
    . rw[if_pos rfl]
      exact⟨hv,rfl⟩
   have hfree:=fun h1=>Zjq ([] ++ [.f]) s h1 hd
   refine(gRecover_no h (by omega) hd hU0 hno).mono ?_;rintro e w' ⟨x,rfl,⟨P',hk,hcg⟩,_,hx2⟩;refine⟨x,_,_,P',rfl,hk,hcg,by rw[hst.2];show 0<=1000;omega,by rw[hst.1];exact hFl,Zdv _ _,fun k=>?_,fun h0=>?_,fun h1=>(hfree h1).1,hx2,runA_fu _ _⟩
   . show Jst n (appU (Zdd (kpOf k) _) _) G
     rw[hst.1,hst.2];exact⟨hFl,hg,.inr hN⟩
   . refine⟨hpw _ _ h0 hd,hst.2,by rw[hst.1];exact hFl,?_,.inr ⟨by rw[hst.1];exact hN,hst.2⟩⟩
     rw[Zjn hst.2,hst.1];exact⟨by rw[hFl,hg],hN.2.2⟩
end Go.Proofs.YtedabomlfcghoaaGreat
namespace Go.Proofs.YtedabomlfcghoaaGreat
set_option maxRecDepth 100000
open Go.RowKit BM
theorem pageK_split(O:List (Int × Int)):∀ k j,j<k->∃ R,Zdq O k=Zdq O j ++ (lowB (O.getD j (0,0)).1 2 ++ (lowB (O.getD j (0,0)).2 2 ++ R))
 |0,j,h=>absurd h (Nat.not_lt_zero _)
 |k+1,j,h=>by
  rw[Zdq];rcases Nat.lt_succ_iff_lt_or_eq.1 h with h|rfl
  . obtain⟨R,e⟩:=pageK_split O k j h
    exact⟨R ++ (lowB (O.getD k (0,0)).1 2 ++ lowB (O.getD k (0,0)).2 2),by rw[e];simp[List.append_assoc]⟩
  . exact⟨[],by simp[List.append_assoc]⟩
theorem ownJ_page{O:List (Int × Int)}(hB:OwB O){k j:Nat}(hj:j<k):ownJ (Zdq O k) j=O.getD j (0,0):=by
 obtain⟨R,e⟩:=pageK_split O k j hj;have b:=hB j;have e0:(256:Int) ^ 2=65536:=rfl;have e1:getV (Zdq O k) (4*j) 2=(O.getD j (0,0)).1:=by
  rw[e,Zgk _ _ _ 2 b.1.1 (4*j) (Zcw O j)];omega
 have e2:getV (Zdq O k) (4*j+2) 2=(O.getD j (0,0)).2:=by
  rw[e,<- List.append_assoc,Zgk _ _ _ 2 b.2.1 (4*j+2) (by rw[List.length_append,Zcw,Zac])];omega
 exact Prod.ext e1 e2
theorem ownK_page{O:List (Int × Int)}(hB:OwB O)(h:O.length=64):ownK (Zcs O) 64=O:=by
 apply List.ext_getElem (by rw[Zdr,h]);intro i h1 h2;have h3:i<64:=by rwa [Zdr] at h1
 have e:=ownJ_page hB (k:=64) h3;simp only[ownK,List.getElem_map,List.getElem_range,Zcs,h];rw[e,List.getD_eq_getElem?_getD,List.getElem?_eq_getElem h2];rfl
def grO(O:List (Int × Int))(g:Nat):List (Int × Int):=(O.drop (64*g)).take 64
theorem Zdu{O:List (Int × Int)}{k g:Nat}(h:O.length=64*k)(hg:g<k):(grO O g).length=64:=by
 unfold grO;rw[List.length_take,List.length_drop];omega
theorem Zik(O:List (Int × Int))(g:Nat){j:Nat}(hj:j<64):(grO O g).getD j (0,0)=O.getD (64*g+j) (0,0):=by
 unfold grO;rw[List.getD_eq_getElem?_getD,List.getElem?_take,if_pos hj,List.getElem?_drop,List.getD_eq_getElem?_getD]
theorem grO_set(O:List (Int × Int)){n g:Nat}(o:Int × Int)(hg:n / 64≠g):grO (O.set n o) g=grO O g:=by
 apply List.ext_getElem?;intro i;unfold grO;rw[List.getElem?_take,List.getElem?_take];split
 . rw[List.getElem?_drop,List.getElem?_drop,List.getElem?_set_ne (by omega)]
 . rfl
theorem grO_set_self(O:List (Int × Int))(n:Nat)(o:Int × Int):grO (O.set n o) (n / 64)=(grO O (n / 64)).set (n%64) o:=by
 apply List.ext_getElem?;intro i;unfold grO;rw[List.getElem?_take];by_cases hi:i<64
 . rw[if_pos hi,List.getElem?_drop]
   by_cases he:n%64=i
   . have e1:64*(n / 64)+i=n:=by omega
     rw[e1];by_cases hn:n<O.length
     . rw[List.getElem?_set_self hn,he,List.getElem?_set_self (by rw[List.length_take,List.length_drop];omega)]
     . rw[List.getElem?_eq_none (by rw[List.length_set];omega),List.getElem?_eq_none (by rw[List.length_set,List.length_take,List.length_drop];omega)]
   . rw[List.getElem?_set_ne (by omega),List.getElem?_set_ne he,List.getElem?_take,if_pos hi,List.getElem?_drop]
 . rw[if_neg hi,List.getElem?_eq_none]
   rw[List.length_set,List.length_take];omega
structure OOk (O:List (Int × Int)) (k:Nat):Prop where
 len:O.length=64*k
 k1:1<=k
 k12:k<=12
 bd:OwB O
 frm:∀ j,j<64*k->frmJ O j=true
 fx:∀ j,j<64*k->decide ((O.getD j (0,0)).1=65535)=fixB (j:Int)
theorem OwB.set{O:List (Int × Int)}(h:OwB O)(n:Nat){i j:Int}(hi:0<=i/\i<=65535)(hj:0<=j/\j<=65535):OwB (O.set n (i,j)):=fun m=>by
 rw[List.getD_eq_getElem?_getD];by_cases hm:m=n
 . subst hm
   by_cases hl:m<O.length
   . rw[List.getElem?_set_self hl];exact⟨hi,hj⟩
   . rw[List.getElem?_eq_none (by rw[List.length_set];omega)];decide
 . rw[List.getElem?_set_ne (Ne.symm hm),<- List.getD_eq_getElem?_getD];exact h m
theorem OOk.set{O:List (Int × Int)}{k n:Nat}(h:OOk O k)(hn:n<64*k)(hx:fixB (n:Int)=false){i j:Int}(hi:0<=i/\i<=65535)(hj:0<=j/\j<=65535)(hf:frmO i j=true)(hne:i≠65535):OOk (O.set n (i,j)) k:=by
 have hl:=h.len;have e:∀ m,(O.set n (i,j)).getD m (0,0)=if m=n then (i,j) else O.getD m (0,0):=fun m=>getD_set O n m (i,j) (0,0) (by omega)
 refine⟨by rw[List.length_set];exact hl,h.k1,h.k12,h.bd.set n hi hj,fun m hm=>?_,fun m hm=>?_⟩
 . unfold frmJ;rw[e];split
   . exact hf
   . exact h.frm m hm
 . rw[e];split
   . next hmn=>rw[hmn,hx];exact decide_eq_false hne
   . exact h.fx m hm
theorem OOk.gr{O:List (Int × Int)}{k g:Nat}(h:OOk O k)(hg:g<k):OwB (grO O g)/\allO (grO O g)=true/\∀ j,j<64->decide (((grO O g).getD j (0,0)).1=65535)=fixB (64*(g:Int)+j):=by
 have hl:=Zdu h.len hg;refine⟨owB_of fun j hj=>?_,?_,fun j hj=>?_⟩
 . rw[Zik O g (by omega)];exact h.bd _
 . rw[allO,hl,(frmK_iff _ 64).2 fun j hj=>?_];· rfl
   have:=h.frm (64*g+j) (by omega);unfold frmJ at this |-
   rw[Zik O g hj];exact this
 . rw[Zik O g hj,h.fx _ (by omega)];congr 1
def dscN(g:Nat):Nat:=if g=0 then 1 else 64*g
theorem dscN_I{g:Nat}(hg:g<12):dscI (g:Int)=(dscN g:Int):=by
 unfold dscI dscN;rw[if_pos (by omega)];by_cases h:g=0
 . subst h;rfl
 . rw[if_neg (by omega),if_neg h];omega
theorem ownN_I{g:Nat}(hg:g<12):ownI (g:Int)=(dscN g:Int)+1:=by
 unfold ownI;rw[if_pos (by omega),dscN_I hg]
theorem Zjl{g k:Nat}(hg:g<k):dscN g+1<64*k/\OutJ (dscN g)/\OutJ (dscN g+1):=by
 unfold dscN OutJ;split <;> omega
theorem dscN_ne{g m:Nat}(h:g≠m):dscN g≠dscN m/\dscN g+1≠dscN m/\dscN g≠dscN m+1:=by
 unfold dscN;split <;> split <;> omega
structure Has (G:List (List Int)) (O:List (Int × Int)) (k:Nat):Prop where
 len:G.length=64*k
 ds:∀ g,g<k->G.getD (dscN g) []=Zhl (g:Int) (Zbe (grO O g) 64)
 ow:∀ g,g<k->G.getD (dscN g+1) []=Zcs (grO O g)
def putG(G:List (List Int))(g:Nat)(D:List (Int × Int)):List (List Int):=(G.set (dscN g+1) (Zcs D)).set (dscN g) (Zhl (g:Int) (Zbe D 64))
theorem Has.put{G:List (List Int)}{O:List (Int × Int)}{k n:Nat}(h:Has G O k)(hn:n<64*k)(o:Int × Int):Has (putG G (n / 64) (grO (O.set n o) (n / 64))) (O.set n o) k:=by
 have hg:n / 64<k:=by omega
 have hl:=h.len;have hi:=Zjl hg;have e:∀ m,(putG G (n / 64) (grO (O.set n o) (n / 64))).getD m []=if m=dscN (n / 64) then Zhl ((n / 64:Nat):Int) (Zbe (grO (O.set n o) (n / 64)) 64) else if m=dscN (n / 64)+1 then Zcs (grO (O.set n o) (n / 64)) else G.getD m []:=fun m=>by
  unfold putG;rw[getD_set _ _ _ _ _ (by rw[List.length_set];omega),getD_set _ _ _ _ _ (by omega)]
 refine⟨by unfold putG;rw[List.length_set,List.length_set];exact hl,fun g hgk=>?_,fun g hgk=>?_⟩
 . by_cases he:g=n / 64
   . subst he;rw[e,if_pos rfl]
   . have hne:=dscN_ne he
     rw[e,if_neg hne.1,if_neg hne.2.2,grO_set O o (Ne.symm he)];exact h.ds g hgk
 . by_cases he:g=n / 64
   . subst he;rw[e,if_neg (by omega),if_pos rfl]
   . have hne:=dscN_ne he
     rw[e,if_neg hne.2.1,if_neg (by omega),grO_set O o (Ne.symm he)];exact h.ow g hgk
theorem countB_snoc(L:List Bool)(b:Bool):Zcr (L ++ [b])=Zcr L+if b then 1 else 0:=by
 unfold Zcr;rw[List.filter_append];cases b <;> simp
theorem used_free(O:List (Int × Int))(j:Nat):Zef O j=!Zbh O j:=by
 unfold Zef Zbh;by_cases h:(O.getD j (0,0)).1=0 <;> simp
theorem count_used{O:List (Int × Int)}{k:Nat}(h:OOk O k):∀ L,L<=64*k->Zcr (Zbe O L)=cntU O L+cntF L
 |0,_=>rfl
 |L+1,hL=>by
  have ih:=count_used h L (by omega);have hf:=h.fx L (by omega);rw[usedK_succ,countB_snoc,ih,cntU,cntF,used_free];cases hx:fixB (L:Int)
  . cases hr:Zbh O L <;> simp <;> omega
  . rw[hx] at hf
    have hr:Zbh O L=false:=by
     have:=of_decide_eq_true hf;unfold Zbh;exact decide_eq_false (by omega)
    rw[hr];simp;omega
theorem find_is{O:List (Int × Int)}{L:Nat}(h0:0<L)(goal:Int):firstS (Zbe O L) goal=Zit O L (Zis L goal):=by
 have hl:=Zbv O L;obtain⟨g,hg⟩:∃ g,g=Zis L goal:=⟨_,rfl⟩;have hgL:g<L:=by rw[hg];unfold Zis;split <;> omega
 have hu:∀ j,j<L->(Zbe O L).getD j false=!Zbh O j:=fun j hj=>by rw[usedK_getD O L j hj,used_free]
 have hu1:∀ j,j<L->(Zbe O L).getD j false=true->Zbh O j=false:=fun j hj h=>by rw[hu j hj] at h;simpa using h
 have hu0:∀ j,j<L->(Zbe O L).getD j false=false->Zbh O j=true:=fun j hj h=>by rw[hu j hj] at h;simpa using h
 have e:firstS (Zbe O L) goal=if 0<=Zdo (Zbe O L) g then Zdo (Zbe O L) g else Zdo (Zbe O L) 0:=by
  unfold firstS;rw[hl];unfold Zis at hg;by_cases hin:0<=goal/\goal<L
  . rw[if_neg (show ¬ (goal<0\/(L:Int)<=goal) by omega)] at hg
    rw[if_pos hin,hg]
  . rw[if_pos (show goal<0\/(L:Int)<=goal by omega)] at hg
    rw[if_neg hin,hg];split <;> rfl
 rw[e,<- hg];clear e hg;rcases firstZ_cases (Zbe O L) g with⟨e1,a1⟩| ⟨j,gj,jl,e1,z1,a1⟩
 . rw[e1,if_neg (by omega)]
   rcases firstZ_cases (Zbe O L) 0 with⟨e2,a2⟩| ⟨j,gj,jl,e2,z2,a2⟩
   . rw[e2,findS_none fun i hi=>?_]
     have hm:(g+i)%L<L:=Nat.mod_lt _ h0;exact hu1 _ hm (a2 _ (Nat.zero_le _) (by omega))
   . rw[hl] at jl a1
     have hjg:j<g:=by
      apply Classical.byContradiction;intro hn;have:=a1 j (by omega) jl;rw[z2] at this;cases this
     have em:(g+(L-g+j))%L=j:=by
      rw[show g+(L-g+j)=j+L by omega,Nat.add_mod_right,Nat.mod_eq_of_lt jl]
     rw[e2,findS_hit (k:=L-g+j) (by omega) (by rw[em];exact hu0 j jl z2) fun i hi=>?_,em];by_cases hi2:g+i<L
     . rw[Nat.mod_eq_of_lt hi2];exact hu1 _ hi2 (a1 _ (by omega) hi2)
     . rw[show g+i=(g+i-L)+L by omega,Nat.add_mod_right,Nat.mod_eq_of_lt (by omega)]
       exact hu1 _ (by omega) (a2 _ (Nat.zero_le _) (by omega))
 . rw[hl] at jl
   have em:(g+(j-g))%L=j:=by rw[show g+(j-g)=j by omega,Nat.mod_eq_of_lt jl]
   rw[e1,if_pos (by omega),findS_hit (k:=j-g) (by omega) (by rw[em];exact hu0 j jl z1) fun i hi=>?_,em];rw[Nat.mod_eq_of_lt (by omega)];exact hu1 _ (by omega) (a1 _ (by omega) (by omega))
end Go.Proofs.YtedabomlfcghoaaGreat
namespace Go.Proofs.YtedabomlfcghoaaGreat
set_option maxRecDepth 100000
open Go.RowKit
def num(L:List Int)(i:Nat):Int:=L.getD i 0
def wid(i:Nat):Nat:=if i=1 then 1 else 2
def pos:Nat->Nat
 |0=>8
 |i+1=>pos i+wid i
def magicB:List Int:=[97,115,104,108,97,114,32,49]
def conS(L:List Int):Nat->List Int
 |0=>magicB
 |i+1=>conS L i ++ lowB (num L i) (wid i)
theorem Zce(L:List Int):∀ i,(conS L i).length=pos i
 |0=>rfl
 |i+1=>by rw[conS,List.length_append,Zce L i,Zac];rfl
def st0(tg cu io ba:Int):Bool:=(tg==0) && ((cu==0) && ((io==0) && (ba==0)))
def st1(b tg cu io ba:Int):Bool:=frmB tg && (decide (b<tg) && (decide (b / 64<=cu/\cu<=tg / 64) && ((io==0) && (ba==0))))
def st2(b tg cu io ba:Int):Bool:=frmB tg && (decide (tg<b) && ((cu==0) && ((io==0) && (ba==0))))
def st3(b tg cu io ba:Int):Bool:=(tg==0) && (decide (1<=io/\io<=47) && (decide (0<=ba/\ba<=b) && decide (0<=cu/\cu<=b)))
def stS(b st tg cu io ba:Int):Bool:=if st=0 then st0 tg cu io ba else if st=1 then st1 b tg cu io ba else if st=2 then st2 b tg cu io ba else if st=3 then st3 b tg cu io ba else false
def Zhk(L:List Int):Bool:=stS (num L 0) (num L 1) (num L 2) (num L 3) (num L 4) (num L 5)
def okTS(L:List Int)(i:Nat):Prop:=(0<=num L (6+i)/\num L (6+i)<=num L 0-1)/\fixB (num L (6+i))=false/\∀ k,k<i->num L (6+k)≠num L (6+i)
open Classical in
noncomputable def frmTo(L:List Int):Nat->Bool
 |0=>true
 |i+1=>frmTo L i && decide (okTS L i)
open Classical in
theorem Zic(L:List Int):∀ n,frmTo L n=true ↔ ∀ i,i<n->okTS L i
 |0=>⟨fun _ i h=>absurd h (Nat.not_lt_zero _),fun _=>rfl⟩
 |n+1=>by
  rw[frmTo,Bool.and_eq_true,Zic L n,decide_eq_true_eq];refine⟨fun⟨h1,h2⟩ i hi=>?_,fun h=>⟨fun i hi=>h i (by omega),h n (by omega)⟩⟩;by_cases e:i=n
  . rw[e];exact h2
  . exact h1 i (by omega)
theorem frmTo_succ{L:List Int}{j:Nat}(h:frmTo L j=true)(hk:okTS L j):frmTo L (j+1)=true:=
 (Zic L (j+1)).2 fun i hi=>by
   by_cases e:i=j
   . rw[e];exact hk
   . exact(Zic L j).1 h i (by omega)
noncomputable def Zid(L:List Int):Bool:=frmTo L 6
noncomputable def frmS(L:List Int):Bool:=frmB (num L 0) && (Zhk L && Zid L)
noncomputable def limS(L:List Int):Int:=if frmS L=true then (if num L 1=2 then num L 2 else num L 0) else 0
def encS(L:List Int):List Int:=Zal (conS L 12)
def rdS(l:List Int):List Int:=(List.range 12).map fun i=>getV l (pos i) (wid i)
theorem Zfy(l:List Int):(rdS l).length=12:=by simp[rdS]
theorem num_rdS(l:List Int)(i:Nat)(h:i<12):num (rdS l) i=getV l (pos i) (wid i):=by
 simp[num,rdS,List.getD_eq_getElem?_getD,h]
def hasS(l:List Int):Prop:=Zei l/\frmS (rdS (l.take 252))=true/\encS (rdS (l.take 252))=l
def decS(l:List Int):List Int:=rdS (l.take 252)
theorem frm_bound{L:List Int}(h:frmS L=true):frmB (num L 0)=true/\Zhk L=true/\Zid L=true:=by
 simpa [frmS,Bool.and_eq_true] using h
theorem frm_tab{L:List Int}(h:Zid L=true):∀ i,i<6->okTS L i:=(Zic L 6).1 h
theorem frm_num{L:List Int}(h:frmS L=true):∀ i,i<12->0<=num L i/\num L i<256 ^ wid i:=by
 obtain⟨h1,h2,h3⟩:=frm_bound h;have hb:=of_decide_eq_true h1;have hst:num L 1=0\/num L 1=1\/num L 1=2\/num L 1=3:=by
  unfold Zhk stS at h2;split at h2
  . exact .inl ‹_›
  . split at h2
    . exact .inr (.inl ‹_›)
    . split at h2
      . exact .inr (.inr (.inl ‹_›))
      . split at h2
        . exact .inr (.inr (.inr ‹_›))
        . cases h2
 have hfr:∀ {t:Int},frmB t=true->0<=t/\t<=768:=fun h=>by have:=of_decide_eq_true h;omega
 have hq:(0<=num L 2/\num L 2<=768)/\(0<=num L 3/\num L 3<=768)/\(0<=num L 4/\num L 4<=768)/\(0<=num L 5/\num L 5<=768):=by
  unfold Zhk stS at h2;rcases hst with e|e|e|e
  . rw[e] at h2;simp only[if_true,st0,Bool.and_eq_true,beq_iff_eq] at h2;omega
  . rw[e] at h2
    simp only[show ¬ (1:Int)=0 by decide,if_false,if_true,st1,Bool.and_eq_true,beq_iff_eq,decide_eq_true_eq] at h2;have:=hfr h2.1;omega
  . rw[e] at h2
    simp only[show ¬ (2:Int)=0 by decide,show ¬ (2:Int)=1 by decide,if_false,if_true,st2,Bool.and_eq_true,beq_iff_eq,decide_eq_true_eq] at h2;have:=hfr h2.1;omega
  . rw[e] at h2
    simp only[show ¬ (3:Int)=0 by decide,show ¬ (3:Int)=1 by decide,show ¬ (3:Int)=2 by decide,if_false,if_true,st3,Bool.and_eq_true,beq_iff_eq,decide_eq_true_eq] at h2;omega
 have ht:=frm_tab h3;intro i hi;have w2:∀ j,j≠1->(256:Int) ^ wid j=65536:=fun j hj=>by rw[wid,if_neg hj];rfl
 by_cases h0:i=0
 . subst h0;rw[w2 0 (by decide)];omega
 by_cases h1:i=1
 . subst h1;rw[show(256:Int) ^ wid 1=256 from rfl];omega
 rw[w2 i h1];by_cases h6:i<6
 . have:i=2\/i=3\/i=4\/i=5:=by omega
   rcases this with rfl|rfl|rfl|rfl <;> omega
 . obtain⟨k,rfl⟩:∃ k,i=6+k:=⟨i-6,by omega⟩
   have:=(ht k (by omega)).1;omega
theorem getV_mid(A B:List Int)(n:Int)(k:Nat)(h:0<=n)(h1:n<256 ^ k):getV (A ++ (lowB n k ++ B)) A.length k=n:=by
 unfold getV;rw[List.drop_left,List.take_left' (Zac n k),leB_lowB n k h];exact Int.emod_eq_of_lt h h1
theorem conS_split(L:List Int)(i:Nat):∀ j,i<j->∃ B,conS L j=conS L i ++ (lowB (num L i) (wid i) ++ B):=by
 intro j;induction j with
 |zero=>intro h;omega
 |succ j ih=>
  intro h;by_cases e:i=j
  . subst e;exact⟨[],by rw[conS];simp⟩
  . obtain⟨B,hB⟩:=ih (by omega)
    exact⟨B ++ lowB (num L j) (wid j),by rw[conS,hB];simp⟩
theorem con_le(L:List Int):(conS L 12).length=31:=Zce L 12
theorem seal_take(c:List Int)(h:c.length<=252):(Zal c).take 252=Zcq c:=by
 rw[Zal,List.take_left' (Zcd c h)]
theorem list12{L:List Int}(h:L.length=12)(M:List Int)(h':M.length=12)(e:∀ i,i<12->num L i=num M i):L=M:=by
 apply List.ext_getElem (by rw[h,h']);intro i h1 h2;have:=e i (by omega)
 simpa [num,List.getD_eq_getElem?_getD,h1,h2] using this
theorem rd_enc{L:List Int}(hL:L.length=12)(h:frmS L=true):rdS ((encS L).take 252)=L:=by
 refine list12 (Zfy _) _ hL fun i hi=>?_
 rw[num_rdS _ _ hi,encS,seal_take _ (by rw[con_le];decide),Zcq];obtain⟨B,hB⟩:=conS_split L i 12 hi;obtain⟨h0,h1⟩:=frm_num h i hi;rw[hB,List.append_assoc,List.append_assoc,<- Zce L i];exact getV_mid _ _ _ _ h0 h1
theorem has_enc{L:List Int}(hL:L.length=12)(h:frmS L=true):hasS (encS L)/\decS (encS L)=L:=by
 have e:=rd_enc hL h;exact⟨⟨Zhw _ (by rw[con_le];decide),by rw[e];exact h,by rw[e]⟩,e⟩
theorem byt_magic:∀ x∈magicB,0<=x/\x<=255:=by decide
end Go.Proofs.YtedabomlfcghoaaGreat
namespace Go.Proofs.YtedabomlfcghoaaGreat
set_option maxRecDepth 100000
open Go.RowKit
theorem eq_arr10(p0 p1 p2 p3 p4 p5 p6 p7 p8 p9 q0 q1 q2 q3 q4 q5 q6 q7 q8 q9:Int)(w:World):
 (Op.equalIn 9999 45 (.agg #[.int .i64 p0,.int .i64 p1,.int .i64 p2,.int .i64 p3,.int .i64 p4,.int .i64 p5,.int .i64 p6,.int .i64 p7,.int .i64 p8,.int .i64 p9]) (.agg #[.int .i64 q0,.int .i64 q1,.int .i64 q2,.int .i64 q3,.int .i64 q4,.int .i64 q5,.int .i64 q6,.int .i64 q7,.int .i64 q8,.int .i64 q9])).run Tryz.prog w
   =.ok (decide ([p0,p1,p2,p3,p4,p5,p6,p7,p8,p9]=[q0,q1,q2,q3,q4,q5,q6,q7,q8,q9])) w:=by
 have u3:=Tryz.underlying3;have a3:=Tryz.isAgg3;have z3:=Tryz.sizeOf3;rw[show(9999:Nat)=9998+1 from rfl,Op.equalIn];simp only[Sem.run_bind,run_underlying Tryz.underlying45,Result.andThen_ok];simp only[Std.Legacy.Range.forIn_eq_forIn_range',Std.Legacy.Range.size,Nat.sub_zero,Nat.add_sub_cancel,Nat.div_one,List.range'_succ,List.range'_zero,List.forIn_cons,List.forIn_nil]
 go_simp
 by_cases e0:p0=q0
 case neg=>(rw [if_neg e0,decide_eq_false e0];rfl)
 rw[if_pos e0,decide_eq_true e0,Bool.true_and];by_cases e1:p1=q1
 case neg=>(rw [if_neg e1,decide_eq_false e1];rfl)
 rw[if_pos e1,decide_eq_true e1,Bool.true_and];by_cases e2:p2=q2
 case neg=>(rw [if_neg e2,decide_eq_false e2];rfl)
 rw[if_pos e2,decide_eq_true e2,Bool.true_and];by_cases e3:p3=q3
 case neg=>(rw [if_neg e3,decide_eq_false e3];rfl)
 rw[if_pos e3,decide_eq_true e3,Bool.true_and];by_cases e4:p4=q4
 case neg=>(rw [if_neg e4,decide_eq_false e4];rfl)
 rw[if_pos e4,decide_eq_true e4,Bool.true_and];by_cases e5:p5=q5
 case neg=>(rw [if_neg e5,decide_eq_false e5];rfl)
 rw[if_pos e5,decide_eq_true e5,Bool.true_and];by_cases e6:p6=q6
 case neg=>(rw [if_neg e6,decide_eq_false e6];rfl)
 rw[if_pos e6,decide_eq_true e6,Bool.true_and];by_cases e7:p7=q7
 case neg=>(rw [if_neg e7,decide_eq_false e7];rfl)
 rw[if_pos e7,decide_eq_true e7,Bool.true_and];by_cases e8:p8=q8
 case neg=>(rw [if_neg e8,decide_eq_false e8];rfl)
 rw[if_pos e8,decide_eq_true e8,Bool.true_and];by_cases e9:p9=q9
 . rw[if_pos e9,decide_eq_true e9]
 . rw[if_neg e9,decide_eq_false e9]
theorem eqIno_at(kp lp sp p0 p1 p2 p3 p4 p5 p6 p7 p8 p9 mp kq lq sq q0 q1 q2 q3 q4 q5 q6 q7 q8 q9 mq:Int)(w:World):
 (Op.equalIn 10000 47 (.agg #[.int .i64 kp,.int .i64 lp,.int .i64 sp,.int .i64 p0,.int .i64 p1,.int .i64 p2,.int .i64 p3,.int .i64 p4,.int .i64 p5,.int .i64 p6,.int .i64 p7,.int .i64 p8,.int .i64 p9,.int .i64 mp]) (.agg #[.int .i64 kq,.int .i64 lq,.int .i64 sq,.int .i64 q0,.int .i64 q1,.int .i64 q2,.int .i64 q3,.int .i64 q4,.int .i64 q5,.int .i64 q6,.int .i64 q7,.int .i64 q8,.int .i64 q9,.int .i64 mq])).run Tryz.prog w
   =.ok (decide ([kp,lp,sp,p0,p1,p2,p3,p4,p5,p6,p7,p8,p9,mp]=[kq,lq,sq,q0,q1,q2,q3,q4,q5,q6,q7,q8,q9,mq])) w:=by
 have hq:=eq_arr10 p0 p1 p2 p3 p4 p5 p6 p7 p8 p9 q0 q1 q2 q3 q4 q5 q6 q7 q8 q9;have u3:=Tryz.underlying3;have a3:=Tryz.isAgg3;have z3:=Tryz.sizeOf3
 go_simp
 by_cases e:kp=kq
 case neg=>(rw [if_neg e,decide_eq_false e];rfl)
 rw[if_pos e,decide_eq_true e];simp only[Bool.true_and];clear e;by_cases e:lp=lq
 case neg=>(rw [if_neg e,decide_eq_false e];rfl)
 rw[if_pos e,decide_eq_true e];simp only[Bool.true_and];clear e;by_cases e:sp=sq
 case neg=>(rw [if_neg e,decide_eq_false e];rfl)
 rw[if_pos e,decide_eq_true e];simp only[Bool.true_and];clear e;by_cases e:p0=q0
 case neg=>(rw [decide_eq_false e];rfl)
 rw[decide_eq_true e];simp only[Bool.true_and];clear e;by_cases e:p1=q1
 case neg=>(rw [decide_eq_false e];rfl)
 rw[decide_eq_true e];simp only[Bool.true_and];clear e;by_cases e:p2=q2
 case neg=>(rw [decide_eq_false e];rfl)
 rw[decide_eq_true e];simp only[Bool.true_and];clear e;by_cases e:p3=q3
 case neg=>(rw [decide_eq_false e];rfl)
 rw[decide_eq_true e];simp only[Bool.true_and];clear e;by_cases e:p4=q4
 case neg=>(rw [decide_eq_false e];rfl)
 rw[decide_eq_true e];simp only[Bool.true_and];clear e;by_cases e:p5=q5
 case neg=>(rw [decide_eq_false e];rfl)
 rw[decide_eq_true e];simp only[Bool.true_and];clear e;by_cases e:p6=q6
 case neg=>(rw [decide_eq_false e];rfl)
 rw[decide_eq_true e];simp only[Bool.true_and];clear e;by_cases e:p7=q7
 case neg=>(rw [decide_eq_false e];rfl)
 rw[decide_eq_true e];simp only[Bool.true_and];clear e;by_cases e:p8=q8
 case neg=>(rw [decide_eq_false e];rfl)
 rw[decide_eq_true e];simp only[Bool.true_and];clear e;by_cases e:p9=q9
 case neg=>(rw [decide_eq_false e];rfl)
 rw[decide_eq_true e];simp only[Bool.true_and];clear e;by_cases e:mp=mq
 . rw[if_pos e,decide_eq_true e];rfl
 . rw[if_neg e,decide_eq_false e];rfl
theorem eqIno(L M:List Int)(hL:L.length=14)(hM:M.length=14)(w:World):(Op.equalIn 10000 47 (.agg (iC L).toArray) (.agg (iC M).toArray)).run Tryz.prog w=.ok (decide (L=M)) w:=by
 match L,hL,M,hM with
 |[kp,lp,sp,p0,p1,p2,p3,p4,p5,p6,p7,p8,p9,mp],_,[kq,lq,sq,q0,q1,q2,q3,q4,q5,q6,q7,q8,q9,mq],_=>exact eqIno_at kp lp sp p0 p1 p2 p3 p4 p5 p6 p7 p8 p9 mp kq lq sq q0 q1 q2 q3 q4 q5 q6 q7 q8 q9 mq w
theorem wpList_eqIno{ops:Array Oper}{rest:List Oper}{o:Oper}{a:Act}{w:World}{Q:Exit->Act->World->Prop}(hgd:o.guard=none)(x y:Operand)(ho:o.op=.binOp .eql 47 x y 47)
 (L M:List Int) (hL:L.length=14) (hM:M.length=14) (hx:a.eval x=.agg (iC L).toArray) (hy:a.eval y=.agg (iC M).toArray)
 (h:wpList Tryz.prog ops Q rest (a.put o.dst (.bool (decide (L=M)))) w):wpList Tryz.prog ops Q (o :: rest) a w:=by
 refine wpList_plain hgd fun K hK=>?_
 have hg:Tryz.prog.eqGuardType Tryz.prog.depth 47=false:=by kernel_rfl
 unfold Oper.wp execOp;simp only[ho,hx,hy,Sem.run_bind,run_eqGuard_agg w _ _ _ _ _ _ hg,Result.andThen_ok,run_eql_struct,eqIno L M hL hM];exact hK _ _ h
theorem eqRIno_at(kp lp sp p0 p1 p2 p3 p4 p5 p6 p7 p8 p9 mp kq lq sq q0 q1 q2 q3 q4 q5 q6 q7 q8 q9 mq:Int)(w:World):
 (Op.equalIn 10000 146 (.agg #[.int .i64 kp,.int .i64 lp,.int .i64 sp,.int .i64 p0,.int .i64 p1,.int .i64 p2,.int .i64 p3,.int .i64 p4,.int .i64 p5,.int .i64 p6,.int .i64 p7,.int .i64 p8,.int .i64 p9,.int .i64 mp]) (.agg #[.int .i64 kq,.int .i64 lq,.int .i64 sq,.int .i64 q0,.int .i64 q1,.int .i64 q2,.int .i64 q3,.int .i64 q4,.int .i64 q5,.int .i64 q6,.int .i64 q7,.int .i64 q8,.int .i64 q9,.int .i64 mq])).run Tryz.prog w
   =.ok (decide ([kp,lp,sp,p0,p1,p2,p3,p4,p5,p6,p7,p8,p9,mp]=[kq,lq,sq,q0,q1,q2,q3,q4,q5,q6,q7,q8,q9,mq])) w:=by
 have hq:=eq_arr10 p0 p1 p2 p3 p4 p5 p6 p7 p8 p9 q0 q1 q2 q3 q4 q5 q6 q7 q8 q9;have u3:=Tryz.underlying3;have a3:=Tryz.isAgg3;have z3:=Tryz.sizeOf3
 go_simp
 by_cases e:kp=kq
 case neg=>(rw [if_neg e,decide_eq_false e];rfl)
 rw[if_pos e,decide_eq_true e];simp only[Bool.true_and];clear e;by_cases e:lp=lq
 case neg=>(rw [if_neg e,decide_eq_false e];rfl)
 rw[if_pos e,decide_eq_true e];simp only[Bool.true_and];clear e;by_cases e:sp=sq
 case neg=>(rw [if_neg e,decide_eq_false e];rfl)
 rw[if_pos e,decide_eq_true e];simp only[Bool.true_and];clear e;by_cases e:p0=q0
 case neg=>(rw [decide_eq_false e];rfl)
 rw[decide_eq_true e];simp only[Bool.true_and];clear e;by_cases e:p1=q1
 case neg=>(rw [decide_eq_false e];rfl)
 rw[decide_eq_true e];simp only[Bool.true_and];clear e;by_cases e:p2=q2
 case neg=>(rw [decide_eq_false e];rfl)
 rw[decide_eq_true e];simp only[Bool.true_and];clear e;by_cases e:p3=q3
 case neg=>(rw [decide_eq_false e];rfl)
 rw[decide_eq_true e];simp only[Bool.true_and];clear e;by_cases e:p4=q4
 case neg=>(rw [decide_eq_false e];rfl)
 rw[decide_eq_true e];simp only[Bool.true_and];clear e;by_cases e:p5=q5
 case neg=>(rw [decide_eq_false e];rfl)
 rw[decide_eq_true e];simp only[Bool.true_and];clear e;by_cases e:p6=q6
 case neg=>(rw [decide_eq_false e];rfl)
 rw[decide_eq_true e];simp only[Bool.true_and];clear e;by_cases e:p7=q7
 case neg=>(rw [decide_eq_false e];rfl)
 rw[decide_eq_true e];simp only[Bool.true_and];clear e;by_cases e:p8=q8
 case neg=>(rw [decide_eq_false e];rfl)
 rw[decide_eq_true e];simp only[Bool.true_and];clear e;by_cases e:p9=q9
 case neg=>(rw [decide_eq_false e];rfl)
 rw[decide_eq_true e];simp only[Bool.true_and];clear e;by_cases e:mp=mq
 . rw[if_pos e,decide_eq_true e];rfl
 . rw[if_neg e,decide_eq_false e];rfl
theorem eqRIno(L M:List Int)(hL:L.length=14)(hM:M.length=14)(w:World):(Op.equalIn 10000 146 (.agg (iC L).toArray) (.agg (iC M).toArray)).run Tryz.prog w=.ok (decide (L=M)) w:=by
 match L,hL,M,hM with
 |[kp,lp,sp,p0,p1,p2,p3,p4,p5,p6,p7,p8,p9,mp],_,[kq,lq,sq,q0,q1,q2,q3,q4,q5,q6,q7,q8,q9,mq],_=>exact eqRIno_at kp lp sp p0 p1 p2 p3 p4 p5 p6 p7 p8 p9 mp kq lq sq q0 q1 q2 q3 q4 q5 q6 q7 q8 q9 mq w
theorem wpList_eqRIno{ops:Array Oper}{rest:List Oper}{o:Oper}{a:Act}{w:World}{Q:Exit->Act->World->Prop}(hgd:o.guard=none)(x y:Operand)(ho:o.op=.binOp .eql 146 x y 146)
 (L M:List Int) (hL:L.length=14) (hM:M.length=14) (hx:a.eval x=.agg (iC L).toArray) (hy:a.eval y=.agg (iC M).toArray)
 (h:wpList Tryz.prog ops Q rest (a.put o.dst (.bool (decide (L=M)))) w):wpList Tryz.prog ops Q (o :: rest) a w:=by
 refine wpList_plain hgd fun K hK=>?_
 have hg:Tryz.prog.eqGuardType Tryz.prog.depth 146=false:=by kernel_rfl
 unfold Oper.wp execOp;simp only[ho,hx,hy,Sem.run_bind,run_eqGuard_agg w _ _ _ _ _ _ hg,Result.andThen_ok,run_eql_struct,eqRIno L M hL hM];exact hK _ _ h
def most(kd:Int):Int:=if kd=3 then 200 else 35328
def zeroI:List Int:=[0,0,0,0,0,0,0,0,0,0,0,0,0,0]
def frmN(kd ln sz mp:Int)(D:List Int):Bool:=decide (1<=kd/\kd<=3) && (decide (0<=ln/\ln<=200) && (decide (0<=sz/\sz<=most kd) && (locS D && inB mp)))
def frmI(L:List Int):Bool:=if L.getD 0 0=0 then decide (L=zeroI) else frmN (L.getD 0 0) (L.getD 1 0) (L.getD 2 0) (L.getD 13 0) ((L.drop 3).take 10)
theorem iLongest_yes(kd:Int)(h:1<=kd/\kd<=3)(w:World):Calls Tryz.prog 138 #[.int .i64 kd] w fun e w'=>e=.returned (.tuple #[.int .i64 (most kd),.bool true])/\w=w':=by
 have:kd=1\/kd=2\/kd=3:=by omega
 rcases this with rfl|rfl|rfl
 all_goals
  clear h;go_enter Tryz.func138,Tryz.ntmps138;go_wp2;go_ret2;exact⟨rfl,rfl⟩
theorem iLongest_no(kd:Int)(h:¬ (1<=kd/\kd<=3))(w:World):Calls Tryz.prog 138 #[.int .i64 kd] w fun e w'=>e=.returned (.tuple #[.int .i64 0,.bool false])/\w=w':=by
 have h1:(kd==1)=false:=by simp;omega
 have h2:(kd==2)=false:=by simp;omega
 have h3:(kd==3)=false:=by simp;omega
 clear h;go_enter Tryz.func138,Tryz.ntmps138;go_wp2;go_ret2;exact⟨rfl,rfl⟩
theorem iForm_zero(kd ln sz d0 d1 d2 d3 d4 d5 d6 d7 d8 d9 mp:Int)(h:kd=0)(w:World):Calls Tryz.prog 90 #[.agg #[.int .i64 kd,.int .i64 ln,.int .i64 sz,.int .i64 d0,.int .i64 d1,.int .i64 d2,.int .i64 d3,.int .i64 d4,.int .i64 d5,.int .i64 d6,.int .i64 d7,.int .i64 d8,.int .i64 d9,.int .i64 mp]] w fun e w'=>e=.returned (.bool (decide ([kd,ln,sz,d0,d1,d2,d3,d4,d5,d6,d7,d8,d9,mp]=zeroI)))/\Below w.heap.size w w':=by
 have hb:=Zaa w (.cells #[.int .i64 kd,.int .i64 ln,.int .i64 sz,.int .i64 d0,.int .i64 d1,.int .i64 d2,.int .i64 d3,.int .i64 d4,.int .i64 d5,.int .i64 d6,.int .i64 d7,.int .i64 d8,.int .i64 d9,.int .i64 mp] 47);have hr:=heap_alloc_new w (.cells #[.int .i64 kd,.int .i64 ln,.int .i64 sz,.int .i64 d0,.int .i64 d1,.int .i64 d2,.int .i64 d3,.int .i64 d4,.int .i64 d5,.int .i64 d6,.int .i64 d7,.int .i64 d8,.int .i64 d9,.int .i64 mp] 47);have hrg:(w.alloc (.cells #[.int .i64 kd,.int .i64 ln,.int .i64 sz,.int .i64 d0,.int .i64 d1,.int .i64 d2,.int .i64 d3,.int .i64 d4,.int .i64 d5,.int .i64 d6,.int .i64 d7,.int .i64 d8,.int .i64 d9,.int .i64 mp] 47)).rangeAt w.heap.size 0 (iC [kd,ln,sz,d0,d1,d2,d3,d4,d5,d6,d7,d8,d9,mp]):=Zel hr;have HRG:=hid hrg;have u1:=Tryz.underlying47;clear hr hrg;have hk:(kd==0)=true:=by simp[h]
 clear h;go_enter Tryz.func90,Tryz.ntmps90
 go_wp2_with (first
  |(with_reducible refine Zae rfl 47 (.tmp 1) rfl w.heap.size 0 rfl [kd,ln,sz,d0,d1,d2,d3,d4,d5,d6,d7,d8,d9,mp] _ HRG.out u1 rfl rfl ?_)
  |(with_reducible refine wpList_eqIno rfl (.tmp 8) (.tmp 9) rfl [kd,ln,sz,d0,d1,d2,d3,d4,d5,d6,d7,d8,d9,mp] zeroI rfl rfl rfl rfl ?_))
 go_ret;exact⟨rfl,hb⟩
theorem run_slice_arr10(W:World)(a:Addr):(Instr.sliceAt 45 (.pointer (some a)) none none none).run Tryz.prog W=.ok (.slice (some a) 10 10) W:=by
 obtain⟨i,h2,h3,h4,h5⟩:=info_parts infoI64;have l10:Tryz.prog.arrayLen 45=10:=by kernel_rfl
 have e10:Tryz.prog.elem 45=3:=by kernel_rfl
 obtain⟨a1,a2,a3⟩:=a;simp[Instr.sliceAt,run_underlying Tryz.underlying45,sizeOf,typeInfo,h2,Addr.add,Instr.sureAddr,Instr.sliceBounds]
theorem iForm_kind(kd ln sz d0 d1 d2 d3 d4 d5 d6 d7 d8 d9 mp:Int)(h0:kd≠0)(h:¬ (1<=kd/\kd<=3))(w:World):Calls Tryz.prog 90 #[.agg #[.int .i64 kd,.int .i64 ln,.int .i64 sz,.int .i64 d0,.int .i64 d1,.int .i64 d2,.int .i64 d3,.int .i64 d4,.int .i64 d5,.int .i64 d6,.int .i64 d7,.int .i64 d8,.int .i64 d9,.int .i64 mp]] w fun e w'=>e=.returned (.bool false)/\Below w.heap.size w w':=by
 have hb:=Zaa w (.cells #[.int .i64 kd,.int .i64 ln,.int .i64 sz,.int .i64 d0,.int .i64 d1,.int .i64 d2,.int .i64 d3,.int .i64 d4,.int .i64 d5,.int .i64 d6,.int .i64 d7,.int .i64 d8,.int .i64 d9,.int .i64 mp] 47);have KL:=hid (iLongest_no kd h);have hk:(kd==0)=false:=by simp[h0]
 clear h h0;go_enter Tryz.func90,Tryz.ntmps90
 go_wp2_with (first
  |(go_at_call 138;with_reducible refine(KL.out _).mono ?_;rintro e w' ⟨rfl,rfl⟩))
 go_ret;exact⟨rfl,hb⟩
theorem iForm_n(kd ln sz d0 d1 d2 d3 d4 d5 d6 d7 d8 d9 mp:Int)(h:1<=kd/\kd<=3)(w:World):Calls Tryz.prog 90 #[.agg #[.int .i64 kd,.int .i64 ln,.int .i64 sz,.int .i64 d0,.int .i64 d1,.int .i64 d2,.int .i64 d3,.int .i64 d4,.int .i64 d5,.int .i64 d6,.int .i64 d7,.int .i64 d8,.int .i64 d9,.int .i64 mp]] w fun e w'=>e=.returned (.bool (frmN kd ln sz mp [d0,d1,d2,d3,d4,d5,d6,d7,d8,d9]))/\Below w.heap.size w w':=by
 have hb:=Zaa w (.cells #[.int .i64 kd,.int .i64 ln,.int .i64 sz,.int .i64 d0,.int .i64 d1,.int .i64 d2,.int .i64 d3,.int .i64 d4,.int .i64 d5,.int .i64 d6,.int .i64 d7,.int .i64 d8,.int .i64 d9,.int .i64 mp] 47);have hr:(w.alloc (.cells #[.int .i64 kd,.int .i64 ln,.int .i64 sz,.int .i64 d0,.int .i64 d1,.int .i64 d2,.int .i64 d3,.int .i64 d4,.int .i64 d5,.int .i64 d6,.int .i64 d7,.int .i64 d8,.int .i64 d9,.int .i64 mp] 47)).heap[w.heap.size]? =some (iO [kd,ln,sz,d0,d1,d2,d3,d4,d5,d6,d7,d8,d9,mp] 47):=heap_alloc_new w _;have KL:=hid (iLongest_yes kd h);have hk:(kd==0)=false:=by simp;omega
 have hsl:=run_slice_arr10 (w.alloc (.cells #[.int .i64 kd,.int .i64 ln,.int .i64 sz,.int .i64 d0,.int .i64 d1,.int .i64 d2,.int .i64 d3,.int .i64 d4,.int .i64 d5,.int .i64 d6,.int .i64 d7,.int .i64 d8,.int .i64 d9,.int .i64 mp] 47)) ⟨w.heap.size,3,none⟩;unfold frmN;rw[decide_eq_true h,Bool.true_and];obtain⟨M,hM⟩:∃ M,M=most kd:=⟨_,rfl⟩;rw[<- hM] at KL |-
 clear hM h;obtain⟨B1,h1⟩:∃ B,decide (0<=ln/\ln<=200)=B:=⟨_,rfl⟩;obtain⟨B2,h2⟩:∃ B,decide (0<=sz/\sz<=M)=B:=⟨_,rfl⟩;obtain⟨B3,h3⟩:∃ B,locS [d0,d1,d2,d3,d4,d5,d6,d7,d8,d9]=B:=⟨_,rfl⟩;obtain⟨B4,h4⟩:∃ B,inB mp=B:=⟨_,rfl⟩;rw[h1,h2,h3,h4];have hd:ISl (w.alloc (.cells #[.int .i64 kd,.int .i64 ln,.int .i64 sz,.int .i64 d0,.int .i64 d1,.int .i64 d2,.int .i64 d3,.int .i64 d4,.int .i64 d5,.int .i64 d6,.int .i64 d7,.int .i64 d8,.int .i64 d9,.int .i64 mp] 47)) (.slice (some ⟨w.heap.size,3,none⟩) 10 10) [d0,d1,d2,d3,d4,d5,d6,d7,d8,d9]:=.inr ⟨_,_,rfl,fun j hj=>by
  refine⟨by simp,rfl,?_⟩;have hj:j<10:=hj;have hx:=Zev hr (3+j) (by simp;omega);show(w.alloc _).cell? ⟨w.heap.size,3+j,none⟩=_
  rw[hx,show 3+j=j+3 by omega];have:j=0\/j=1\/j=2\/j=3\/j=4\/j=5\/j=6\/j=7\/j=8\/j=9:=by omega
  rcases this with rfl|rfl|rfl|rfl|rfl|rfl|rfl|rfl|rfl|rfl <;> rfl⟩
 have K1:=hid (Zll ln 200 B1 h1);have K2:=hid (Zll sz M B2 h2);have KD:=hid (Zgy hd (by simp) B3 h3);have K4:=hid (Zjg mp B4 h4);clear h1 h2 h3 h4 hd hr;cases B1
 case false=>
  go_enter Tryz.func90,Tryz.ntmps90
  go_wp2_with (first
   |(go_at_call 138;with_reducible refine(KL.out _).mono ?_;rintro e w' ⟨rfl,rfl⟩)
   |(go_at_call 139;with_reducible refine(K1.out _).mono ?_;rintro e w' ⟨rfl,rfl⟩)
   |(go_at_call 139;with_reducible refine(K2.out _).mono ?_;rintro e w' ⟨rfl,rfl⟩)
   |(go_at_call 140;refine KD.out.mono ?_;rintro e w' ⟨rfl,rfl⟩)
   |(go_at_call 141;with_reducible refine(K4.out _).mono ?_;rintro e w' ⟨rfl,rfl⟩))
  go_ret;exact⟨rfl,hb⟩
 cases B2
 case false=>
  go_enter Tryz.func90,Tryz.ntmps90
  go_wp2_with (first
   |(go_at_call 138;with_reducible refine(KL.out _).mono ?_;rintro e w' ⟨rfl,rfl⟩)
   |(go_at_call 139;with_reducible refine(K1.out _).mono ?_;rintro e w' ⟨rfl,rfl⟩)
   |(go_at_call 139;with_reducible refine(K2.out _).mono ?_;rintro e w' ⟨rfl,rfl⟩)
   |(go_at_call 140;refine KD.out.mono ?_;rintro e w' ⟨rfl,rfl⟩)
   |(go_at_call 141;with_reducible refine(K4.out _).mono ?_;rintro e w' ⟨rfl,rfl⟩))
  go_ret;exact⟨rfl,hb⟩
 cases B3
 case false=>
  go_enter Tryz.func90,Tryz.ntmps90
  go_wp2_with (first
   |(go_at_call 138;with_reducible refine(KL.out _).mono ?_;rintro e w' ⟨rfl,rfl⟩)
   |(go_at_call 139;with_reducible refine(K1.out _).mono ?_;rintro e w' ⟨rfl,rfl⟩)
   |(go_at_call 139;with_reducible refine(K2.out _).mono ?_;rintro e w' ⟨rfl,rfl⟩)
   |(go_at_call 140;refine KD.out.mono ?_;rintro e w' ⟨rfl,rfl⟩)
   |(go_at_call 141;with_reducible refine(K4.out _).mono ?_;rintro e w' ⟨rfl,rfl⟩))
  go_ret;exact⟨rfl,hb⟩
 cases B4
 case false=>
  go_enter Tryz.func90,Tryz.ntmps90
  go_wp2_with (first
   |(go_at_call 138;with_reducible refine(KL.out _).mono ?_;rintro e w' ⟨rfl,rfl⟩)
   |(go_at_call 139;with_reducible refine(K1.out _).mono ?_;rintro e w' ⟨rfl,rfl⟩)
   |(go_at_call 139;with_reducible refine(K2.out _).mono ?_;rintro e w' ⟨rfl,rfl⟩)
   |(go_at_call 140;refine KD.out.mono ?_;rintro e w' ⟨rfl,rfl⟩)
   |(go_at_call 141;with_reducible refine(K4.out _).mono ?_;rintro e w' ⟨rfl,rfl⟩))
  go_ret;exact⟨rfl,hb⟩
 case true=>
  go_enter Tryz.func90,Tryz.ntmps90
  go_wp2_with (first
   |(go_at_call 138;with_reducible refine(KL.out _).mono ?_;rintro e w' ⟨rfl,rfl⟩)
   |(go_at_call 139;with_reducible refine(K1.out _).mono ?_;rintro e w' ⟨rfl,rfl⟩)
   |(go_at_call 139;with_reducible refine(K2.out _).mono ?_;rintro e w' ⟨rfl,rfl⟩)
   |(go_at_call 140;refine KD.out.mono ?_;rintro e w' ⟨rfl,rfl⟩)
   |(go_at_call 141;with_reducible refine(K4.out _).mono ?_;rintro e w' ⟨rfl,rfl⟩))
  go_ret;exact⟨rfl,hb⟩
theorem iForm_of{L:List Int}(hL:L.length=14)(w:World):Calls Tryz.prog 90 #[.agg (iC L).toArray] w fun e w'=>e=.returned (.bool (frmI L))/\Below w.heap.size w w':=by
 match L,hL with
 |[kd,ln,sz,d0,d1,d2,d3,d4,d5,d6,d7,d8,d9,mp],_=>
  show Calls Tryz.prog 90 #[.agg #[.int .i64 kd,.int .i64 ln,.int .i64 sz,.int .i64 d0,.int .i64 d1,.int .i64 d2,.int .i64 d3,.int .i64 d4,.int .i64 d5,.int .i64 d6,.int .i64 d7,.int .i64 d8,.int .i64 d9,.int .i64 mp]] w fun e w'=>e=.returned (.bool (if kd=0 then decide ([kd,ln,sz,d0,d1,d2,d3,d4,d5,d6,d7,d8,d9,mp]=zeroI) else frmN kd ln sz mp [d0,d1,d2,d3,d4,d5,d6,d7,d8,d9]))/\Below w.heap.size w w'
  by_cases h0:kd=0
  . rw[if_pos h0];exact iForm_zero kd ln sz d0 d1 d2 d3 d4 d5 d6 d7 d8 d9 mp h0 w
  . rw[if_neg h0]
    by_cases h:1<=kd/\kd<=3
    . exact iForm_n kd ln sz d0 d1 d2 d3 d4 d5 d6 d7 d8 d9 mp h w
    . have e:frmN kd ln sz mp [d0,d1,d2,d3,d4,d5,d6,d7,d8,d9]=false:=by unfold frmN;rw[decide_eq_false h];rfl
      rw[e];exact iForm_kind kd ln sz d0 d1 d2 d3 d4 d5 d6 d7 d8 d9 mp h0 h w
theorem iForm_is{L:List Int}(hL:L.length=14)(B:Bool)(h:frmI L=B)(w:World):Calls Tryz.prog 90 #[.agg (iC L).toArray] w fun e w'=>e=.returned (.bool B)/\Below w.heap.size w w':=by
 rw[<- h];exact iForm_of hL w
end Go.Proofs.YtedabomlfcghoaaGreat
