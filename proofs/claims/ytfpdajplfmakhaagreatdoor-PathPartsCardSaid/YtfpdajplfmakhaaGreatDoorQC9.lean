/- What the law rests on. -/
import Derived.Lib.Bytealg
import Derived.Lib.AppendStr
import Derived.Test.YtfpdajplfmakhaaGreatDoorQC8
open Go.Value renaming int->J,slice->Ak,pointer->Al,tuple->AH,bool->AP,agg->BN
open Go.IntKind renaming i64->Y
open Go.Proofs.Tryz renaming prog->Ae
open Option renaming none->H,some->U
open Go renaming World->E,Value->I,Calls->Av,Oper->BE,strOfNums->BX,wpList->Cf,TypeId->Cg
open Go.Ending renaming returned->Aj
open Go.Obj renaming cells->Am
open Go.RowKit renaming Below->C
open List renaming replicate->Aw,length_cons->Bm,range->Bu
open Bool renaming false->Ay,true->AE
open Array renaming replicate->AK
open Or renaming inl->AU,inr->AW
open Int renaming toNat_natCast->Cd
namespace Go.Proofs.YtfpdajplfmakhaaGreatDoor
set_option maxHeartbeats 12000000
set_option linter.unusedVariables false
set_option maxRecDepth 100000
theorem Cs:type_of% @List.mem_append_right:=@List.mem_append_right
theorem DT:type_of% @Int.tmod_eq_emod_of_nonneg:=@Int.tmod_eq_emod_of_nonneg
theorem GR:type_of% @List.drop_of_length_le:=@List.drop_of_length_le
section
open Go.RowKit
def Vb(G:List (List Int))(n:Nat):Nat->List (List Int)
 |0=>Aw n zb
 |k+1=>if (G.getD k []).length=256 then (Vb G n k).set k (G.getD k []) else Vb G n k
theorem E5(G:List (List Int))(n:Nat):∀ k,(Vb G n k).length=n
 |0=>A3
 |k+1=>by unfold Vb;split;· rw[AF];exact E5 G n k
          . exact E5 G n k
theorem MK(G:List (List Int))(n:Nat):∀ k i,i<n->k<=n->(Vb G n k).getD i []=if i<k/\(G.getD i []).length=256 then G.getD i [] else zb
 |0,i,hi,_=>by rw[Ax (by omega)];unfold Vb;rw[An,Cu,Au hi];rfl
 |k+1,i,hi,hk=>by
  have ih:=MK G n k i hi (by omega);have hl:=E5 G n k;unfold Vb;by_cases h:(G.getD k []).length=256
  . rw[Au h,BM.getD_set _ _ _ _ _ (by omega),ih]
    by_cases e:i=k
    . rw[Au e,e,Au ⟨by omega,h⟩]
    . rw[Ax e]
      by_cases hc:i<k/\(G.getD i []).length=256
      . rw[Au hc,Au ⟨by omega,hc.2⟩]
      . rw[Ax hc,Ax (fun h2=>hc ⟨by omega,h2.2⟩)]
  . rw[Ax h,ih]
    by_cases hc:i<k/\(G.getD i []).length=256
    . rw[Au hc,Au ⟨by omega,hc.2⟩]
    . rw[Ax hc,Ax (fun h2=>?_)]
      by_cases e:i=k
      . rw[e] at h2;exact h h2.2
      . exact hc ⟨by omega,h2.2⟩
theorem ga(g:Int)(L:List Bool)(h:L.length=64):(Gz g L).length=256:=by rw[Gz];exact Dm _ (by rw[Mt _ _ h];decide)
theorem ns{G:List (List Int)}{O:List (Int × Int)}{kk:Nat}(h:P2 G O kk kk)(hO:O.length=64*kk):Has (Vb G (64*kk) (64*kk)) O kk:=by
 refine⟨E5 _ _ _,fun g hg=>?_,fun g hg=>?_⟩
 . have hin:=Ji hg
   have h1:=(h.ds g hg).1;rw[MK _ _ _ _ (by omega) (At _),Au ⟨by omega,by rw[h1];exact ga _ _ (EH _ _)⟩,h1]
 . have hin:=Ji hg
   have h1:=(h.ds g hg).2;rw[MK _ _ _ _ (by omega) (At _),Au ⟨by omega,by rw[h1];exact Jj (FS hO hg)⟩,h1]
theorem mK{G:List (List Int)}{kk:Nat}(h:New3 G kk)(h1:1<=kk)(h2:kk<=12):Tab (Vb G (64*kk) (64*kk)) (Eb kk) newN:=by
 have e:∀ i,i<64->(G.getD i []).length=256->(Vb G (64*kk) (64*kk)).getD i []=G.getD i []:=fun i hi hl=>by
  rw[MK _ _ _ _ (by omega) (At _),Au ⟨by omega,hl⟩]
 refine New3.tab ⟨fun t ht=>?_,?_,?_⟩ h1 h2 (E5 _ _ _)
 . rw[e _ (by omega) (by rw[h.t t ht];exact Qj _)];exact h.t t ht
 . rw[e _ (by decide) (by rw[h.g0];exact V5)];exact h.g0
 . rw[e _ (by decide) (by rw[h.g63];exact V5)];exact h.g63
theorem oV{G:List (List Int)}{O:List (Int × Int)}{kk:Nat}(h:P2 G O kk kk)(h1:1<=kk):Jst (64*kk) (Vb G (64*kk) (64*kk)) (Vb G (64*kk) (64*kk)):=by
 refine⟨E5 _ _ _,E5 _ _ _,AW ⟨rfl,?_,fun _ _ _=>rfl⟩⟩;rw[MK _ _ _ _ (by omega) (At _),h.jr 42 (by decide) (by decide)];split <;> rfl
theorem BBa.cellAt{w:E}{P:Nat->Prop}{g n cap k:Nat}{L:List (List Int)}(h:BBa w P (Ak (U ⟨g,0,H⟩) n cap) L)(hk:k<L.length):∃ u,w.cell? ⟨g,k,H⟩=U u/\BSl w u (L.getD k []):=by
 rcases h with⟨e,_⟩| ⟨a,cap',e,_,hc⟩
 . cases e
 . injection e with e1 _ _
   injection e1 with e1
   subst e1;obtain⟨_,_,u,h3,h4,_⟩:=hc k hk;exact⟨u,by simpa using h3,h4⟩
theorem YH{kk:Nat}(h1:1<=kk)(h2:kk<=12)(w:E):Av Ae 15 #[J Y (64*(kk:Int)),J Y (64*(kk:Int))] w fun e w'=>∃ b P d G ds,e=Aj (Al (U ⟨b,0,H⟩))/\SInv w' P d (Al (U ⟨b,0,H⟩)) ⟨G,G,[],[],Ay,0,ds⟩/\ds.fu=Ay/\Has G (Gv kk) kk/\Tab G (Eb kk) newN/\(∀ x,P x->w.heap.size<=x)/\C w.heap.size w w':=by
 have KN:=wM (fun(W:E)=>wB W (64*kk) (by omega));rw[show((64*kk:Nat):Int)=64*(kk:Int) by omega] at KN;have KFr:=wM (fun(W:E)=>bY h1 h2 W);go_enter Tryz.func15,Tryz.ntmps15
 go_wp2_with (first
  |(go_at_call 35;refine(KN.out _).mono ?_;rintro e w1 ⟨d,P,rfl,hd1,hP1,hb1⟩)
  |(go_at_call 36;refine(KFr.out _).mono ?_;rintro e w2 ⟨v,G,rfl,hG,hP2,hN3,hb2⟩;have hd2:=hd1.below hb2;have vk:=hG.apart hd2;obtain⟨gv,cv,ev,_,_⟩:=BB2.shape0 hG.bb2 (by rw[hP2.len];omega);rw[hP2.len] at ev;subst ev))
 have HD0:Hid (Dk w2 P d ⟨Vb G (64*kk) 0,[],Ay,0,Ay⟩):=wM hd2;have HC0:Hid (Chg P P w2 w2):=wM (Chg.refl _ _);have HBA:=wM vk;have HP2:=wM hP2;have HN3:=wM hN3;have HPW:=wM hP1;have HB2:Hid (C w.heap.size w w2):=wM (hb1.trans (hb2.mono hb1.size));clear hd1 hP1 hb1 hG hP2 hN3 hb2 hd2 vk KN KFr;go_loopw [17] (fun i WI=>∃ k:Nat,k<=64*kk/\i=J Y k/\Hid (Dk WI P d ⟨Vb G (64*kk) k,[],Ay,0,Ay⟩)/\Hid (Chg P P w2 WI)) (fun i _=>64*kk-(intOf i).toNat)
 case atStart=>exact⟨0,by omega,rfl,HD0,HC0⟩
 case round=>
  obtain⟨k,hk,rfl,HD,HC⟩:=hrel;clear HD0 HC0;by_cases hlt:k<64*kk
  . have ekt:(k:Int)<64*(kk:Int):=by omega
    obtain⟨u,hu,hs⟩:=(HBA.out.chg HC.out).cellAt (k:=k) (by rw[HP2.out.len];exact hlt);have KD:=wM (nK HD.out rfl (n:=k) (by show k<(Vb G (64*kk) k).length;rw[E5];exact hlt) hs);clear hs;go_wp2_with (go_at_call 37;refine KD.out.mono ?_;rintro e w3 ⟨⟨x,rfl⟩,bi,hc3⟩)
    have HD3:Hid (Dk w3 P d ⟨Vb G (64*kk) (k+1),[],Ay,0,Ay⟩):=wM bi;have HC3:=wM (HC.out.trans hc3);clear bi hc3;go_roundw
    case rel=>exact⟨k+1,by omega,by go_num,HD3,HC3⟩
    case measure=>simp[intOf];omega
  . obtain rfl:k=64*kk:=by omega
    have KO:=wM (VJ HD.out (n:=64*kk) (G:=Vb G (64*kk) (64*kk)) (by omega) (by omega) rfl rfl (oV HP2.out h1));have qo:=HD.out.lt;go_wp2_with (go_at_call 38;refine KO.out.mono ?_;rintro e w4 (⟨p,ds',P4,rfl,Ly,hI,hc4⟩| ⟨hf,_⟩);rotate_left;exact absurd hf (by decide);obtain⟨bb,rfl⟩:=landed.ptr hI)
    go_ret;refine⟨bb,P4,d,_,ds',rfl,hI,Ly,ns HP2.out (CL _ _),mK HN3.out h1 h2,fun x hx=>?_,?_⟩
    . rcases Mv hc4 hx with h|h
      . exact HPW.out x h
      . have h3:=HB2.out.size
        have h4:=HC.out.size;omega
    . have hw2:=HB2.out.size
      have b1:C w.heap.size w2 wr:=HC.out.below fun x hx=>⟨by omega,fun hp=>by have:=HPW.out x hp;omega⟩
      have hw3:=HC.out.size;have b2:C w.heap.size wr w4:=hc4.below fun x hx=>⟨by omega,fun hp=>by have:=HPW.out x hp;omega⟩
      exact(HB2.out.trans b1).trans b2
def PM(P M:Nat->Prop)(k:Nat):Prop:=P k\/M k
def Sv(X:XSt):XSt:={ X with call:=X.is,put:=[],wi:=AE }
structure Mid (w0 w:E) (P M:Nat->Prop) (d p r:I) (X:XSt) (n:Int) (O O2:List (Int × Int)) (kk:Nat):Prop where
 inv:SInv w P d p X
 wi:X.wi=AE
 fu:X.ds.fu=Ay
 has:Has X.is O kk
 has2:Has X.call O2 kk
 ok:OOk O kk
 pN:∀ x,P x->w0.heap.size<=x
 mN:∀ x,M x->w0.heap.size<=x
 ap:∀ x,M x->¬ P x
 sz:w0.heap.size<=w.heap.size
 be:C w0.heap.size w0 w
theorem fm{w:E}{v:I}{l:List Int}(hs:BSl w v l)(hl:l.length=256):Av Ae 201 #[v] w fun e w'=>(oo l/\e=Aj (AH #[Ak (U ⟨w.heap.size,0,H⟩) 128 128,J Y 0])/\w'.heap[w.heap.size]? =U (iO (W6 l 128) 3)/\C w.heap.size w w')\/
 (¬ oo l/\e=Aj (AH #[Ak H 0 0,J Y 18])/\C w.heap.size w w'):=by
 obtain⟨ao,cap,rfl,_⟩:=hs.shape;obtain⟨M,M7⟩:∃ M:Nat,M=128:=⟨_,rfl⟩;have HMI:Hid ((128:Int)=(M:Int)):=wM (by omega);have SJ:M<=1000:=by omega
 have HM:=wM M7;have HS:=wM hs;have HL:=wM hl;rw[hl] at HS |-
 clear M7 hs hl;go_enter Tryz.func201,Tryz.ntmps201;go_wp2_with (at_make;refine JA _ rfl _ _ rfl _ M rfl rfl HMI.out (by omega) ?_)
 have hz:(w.alloc (iO (Aw M 0) 3)).heap[w.heap.size]? =U (iO (IG l M 0) 3):=by
  rw[UV];exact Ar w _
 have hb2:C w.heap.size w (w.alloc (iO (Aw M 0) 3)):=As _ _;have Ed:w.heap.size<(w.alloc (iO (Aw M 0) 3)).heap.size:=by simp
 generalize w.alloc (iO (Aw M 0) 3)=w2 at hz hb2 Ed |-
 have HZ:=wM hz;clear hz;go_loopw [14] (fun i wr=>∃ k:Nat,k<=M/\i=J Y k/\Hid (wr.heap[w.heap.size]? =U (iO (IG l M k) 3))/\C w.heap.size w wr) (fun i _=>M-(intOf i).toNat)
 case atStart=>exact⟨0,by omega,rfl,HZ,hb2⟩
 case round=>
  obtain⟨k,hk,rfl,HR,hbr⟩:=hrel;clear HZ hb2 Ed;by_cases hlt:k<M
  . have ekM:(k:Int)<(M:Int):=by omega
    have hk128:k<128:=(by have:=HM.out;omega);have hsr:=HS.out.below hbr;have T1:=Qx hsr (by rw[HL.out];decide) (2*k) 2 ((k:Int)*2) 2 (by push_cast;omega) rfl (by omega) (by omega) (by rw[HL.out];omega) _ rfl;have b1:=jC (C3 hsr.1) (2*k);have Kq:=YY l M k;obtain⟨x,hx⟩:=nm (Cl l (2*k) 2);rw[<- hx] at T1 b1 Kq;have H1:=wM T1;have ck:=Gp HR.out k (by rw[GG];exact hlt);have fk:=OR HR.out k;have hw6:=Wrote.setCell wr w.heap.size k (J Y x);have hr6:=Tm HR.out k x;rw[Kq] at hr6;have HR6:=wM hr6;have HB6:=wM (hbr.trans (hw6.below (At _)));obtain⟨b10,b11⟩:=b1;clear T1 hx hsr Kq hr6 hw6;go_wp2_with (go_at_call 183;(with_reducible refine H1.out.mono ?_);rintro e w3 ⟨rfl,rfl⟩)
    go_roundw
    case rel=>exact⟨k+1,by omega,by go_num,HR6.out,HB6.out⟩
    case measure=>simp[intOf];omega
  . have hr:=HR.out
    have hkM:k=M:=(by omega);rw[hkM,WK] at hr;have hob:=IR.of_row (B:=w.heap.size) (At _) hr (by rw[H9];simp only[maxLen];omega);rw[H9] at hob;have hob2:ISl wr (Ak (U ⟨w.heap.size,0,H⟩) M M) (W6 l 128):=by
     have:=hob.sl;rw[show W6 l 128=W6 l M by rw[HM.out]];exact this
    have HOB:Hid (wr.heap[w.heap.size]? =U (iO (W6 l 128) 3)):=wM (by rw[show W6 l 128=W6 l M by rw[HM.out]];exact hr);have HBR:=wM hbr;clear hr hob;cases hf:FT (W6 l 128)
    all_goals
     have HF:=wM hf;have HA:=wM (In hob2 (by rw[H9];decide) _ hf);clear hf hob2
    . go_wp2_with (go_at_call 90;refine HA.out.mono ?_;rintro e w3 ⟨rfl,rfl⟩)
      go_ret2;exact AW ⟨(fun h=>by have h2:=h.2;rw[HF.out] at h2;cases h2),rfl,hbr⟩
    . go_wp2_with (go_at_call 90;refine HA.out.mono ?_;rintro e w3 ⟨rfl,rfl⟩)
      go_ret2;exact AU ⟨⟨HL.out,HF.out⟩,by rw[HM.out];rfl,HOB.out,hbr⟩
end
section
open Go.RowKit BM
def W7(bf n:Nat)(x:List Int)(fv:I):List I:=Al (U ⟨bf,0,H⟩) :: J Y (n:Nat) :: (iC x ++ [fv])
def ChAt(w:E)(bc bf n:Nat)(x:List Int)(fv:I):Prop:=x.length=14/\fv.oneCell'=AE/\w.heap[bc]? =U (Am (W7 bf n x fv).toArray 243 (0,0))
theorem m9{bf n:Nat}{x:List Int}{fv:I}(hx:x.length=14){k:Nat}(hk:k<14):(W7 bf n x fv)[2+k]? =U (J Y (num x k)):=by
 unfold W7 num;rw[show 2+k=k+1+1 by omega,List.getElem?_cons_succ,List.getElem?_cons_succ,BH (by rw[Cz];omega)];simp[iC,hx,hk]
theorem oY{bf n:Nat}{x:List Int}{fv:I}(hx:x.length=14):(W7 bf n x fv)[16]? =U fv:=by
 unfold W7;rw[show 16=14+1+1 by rfl,List.getElem?_cons_succ,List.getElem?_cons_succ,BR (by rw[Cz];omega),Cz,hx];rfl
theorem jL{bf n:Nat}{x:List Int}{fv:I}(hx:x.length=14)(u:I):(W7 bf n x fv).set 16 u=W7 bf n x u:=by
 unfold W7;rw[show 16=14+1+1 by rfl,List.set_cons_succ,List.set_cons_succ,List.set_append_right _ _ (by rw[Cz];omega),Cz,hx];rfl
section
variable {w:E}{bc bf n:Nat}{x:List Int}{fv:I}
theorem ChAt.lt(h:ChAt w bc bf n x fv):bc<w.heap.size:=(Ah.1 h.2.2).1
theorem ChAt.low{w':E}(h:ChAt w bc bf n x fv)(hb:C w.heap.size w w'):ChAt w' bc bf n x fv:=⟨h.1,h.2.1,Bs h.2.2 hb⟩
theorem ChAt.cell(h:ChAt w bc bf n x fv){j:Nat}{v:I}(hv:(W7 bf n x fv)[j]? =U v):w.cell? ⟨bc,j,H⟩=U v:=by
 rw[Aq _ _ _ _ _ _ h.2.2];simpa using hv
theorem ChAt.c0(h:ChAt w bc bf n x fv):w.cell? ⟨bc,0,H⟩=U (Al (U ⟨bf,0,H⟩)):=h.cell rfl
theorem ChAt.num(h:ChAt w bc bf n x fv){k:Nat}(hk:k<14):w.cell? ⟨bc,2+k,H⟩=U (J Y (num x k)):=h.cell (m9 h.1 hk)
theorem ChAt.cm(h:ChAt w bc bf n x fv):w.cell? ⟨bc,15,H⟩=U (J Y (Go.Proofs.YtfpdajplfmakhaaGreatDoor.num x 13)):=h.num (k:=13) (by decide)
theorem ChAt.cf(h:ChAt w bc bf n x fv):w.cell? ⟨bc,16,H⟩=U fv:=h.cell (oY h.1)
theorem ChAt.free(h:ChAt w bc bf n x fv)(j:Nat):w.frozen? ⟨bc,j,H⟩=Ay:=by simp[E.frozen?,h.2.2]
theorem ChAt.setF(h:ChAt w bc bf n x fv)(u:I)(hu:u.oneCell'=AE):ChAt (w.setCell ⟨bc,16,H⟩ u) bc bf n x u:=
 ⟨h.1,hu,by rw[A8 w bc 16 _ _ _ h.2.2];simp only[AV];rw[jL h.1]⟩
end
def FarA(w:E)(B bc:Nat)(P:Nat->Prop)(fv:I)(F:List Int)(bg:Nat):Prop:=F.length=128/\B<=bg/\bg≠bc/\¬ P bg/\fv=Ak (U ⟨bg,0,H⟩) 128 128/\w.heap[bg]? =U (iO F 3)
theorem LZ{x:List Int}(h:x.length=14):∃ kd ln sz d0 d1 d2 d3 d4 d5 d6 d7 d8 d9 mp:Int,x=[kd,ln,sz,d0,d1,d2,d3,d4,d5,d6,d7,d8,d9,mp]:=by
 match x,h with
 |[kd,ln,sz,d0,d1,d2,d3,d4,d5,d6,d7,d8,d9,mp],_=>exact⟨kd,ln,sz,d0,d1,d2,d3,d4,d5,d6,d7,d8,d9,mp,rfl⟩
section
variable {w:E}{P:Nat->Prop}{d p:I}{X:XSt}{S:List Int}{N:List (List Int)}{bf:Nat}
theorem X5(h:SInv w P d p X)(hf:FsAt w bf p)(hT:Tab X.cur S N){n:Nat}(h1:1<=n)(BG:n<48)(hk:Cy N n≠0){W:E}(hb:C w.heap.size w W):
 Av Ae 178 #[Al (U ⟨bf,0,H⟩),J Y n] W fun e w'=>∃ bc,e=Aj (AH #[Al (U ⟨bc,0,H⟩),J Y 0])/\W.heap.size<=bc/\ChAt w' bc bf n (N.getD n []) (Ak H 0 0)/\C W.heap.size W w':=by
 have KG0:=He h hf hT h1 BG hb;have hx:=hT.n.get BG;unfold Cy at hk;generalize N.getD n []=x at KG0 hx hk;obtain⟨kd,ln,sz,d0,d1,d2,d3,d4,d5,d6,d7,d8,d9,mp,rfl⟩:=LZ hx;have Ur:(kd==0)=Ay:=by simpa using hk
 have KG:Hid (Av Ae 13 #[Al (U ⟨bf,0,H⟩),J Y n] W fun e w'=>e=Aj (AH #[BN #[J Y kd,J Y ln,J Y sz,J Y d0,J Y d1,J Y d2,J Y d3,J Y d4,J Y d5,J Y d6,J Y d7,J Y d8,J Y d9,J Y mp],J Y 0])/\C W.heap.size W w'):=wM KG0;clear KG0 h hf hT hb hx hk;go_enter Tryz.func178,Tryz.ntmps178
 go_wp2_with (go_at_call 13;refine KG.out.mono ?_;rintro e w2 ⟨rfl,hb2⟩
              have hb3:=hb2.trans ((As w2 (Am #[J Y kd,J Y ln,J Y sz,J Y d0,J Y d1,J Y d2,J Y d3,J Y d4,J Y d5,J Y d6,J Y d7,J Y d8,J Y d9,J Y mp] 44)).mono hb2.size);have hb4:=As (w2.alloc (iO [kd,ln,sz,d0,d1,d2,d3,d4,d5,d6,d7,d8,d9,mp] 44)) (Am (W7 bf n [kd,ln,sz,d0,d1,d2,d3,d4,d5,d6,d7,d8,d9,mp] (Ak H 0 0)).toArray 243);have hr4:=Ar (w2.alloc (iO [kd,ln,sz,d0,d1,d2,d3,d4,d5,d6,d7,d8,d9,mp] 44)) (Am (W7 bf n [kd,ln,sz,d0,d1,d2,d3,d4,d5,d6,d7,d8,d9,mp] (Ak H 0 0)).toArray 243))
 go_ret2;refine⟨_,rfl,AI hb2.size (Nat.le_succ _),⟨rfl,rfl,?_⟩,hb3.trans (hb4.mono hb3.size)⟩;have e:(w2.alloc (iO [kd,ln,sz,d0,d1,d2,d3,d4,d5,d6,d7,d8,d9,mp] 44)).heap.size=w2.heap.size+1:=by simp
 rw[e] at hr4;exact hr4
end
theorem OwAt.outJ{O:List (Int × Int)}{kk:Nat}{v:Int}{o:Int × Int}(h:OwAt O kk v o)(h12:kk<=12):D6 v.toNat:=by
 have hx:=h.2.1;have:=h.1;unfold CR at hx;have:=BB hx;unfold D6;omega
section
variable {w:E}{P:Nat->Prop}{d p:I}{X:XSt}{S:List Int}{N:List (List Int)}{bf:Nat}
theorem kG{F:List Int}(h:F.length=128/\FT F=AE):oo (FR F)/\W6 (FR F) 128=F/\(FR F).length=256:=⟨mH h.1 h.2,kw h.1 h.2,by rw[FR,F0]⟩
theorem U8{W:E}{bc n:Nat}{x:List Int}{fv:I}(hc:ChAt W bc bf n x fv)(hm:num x 13=0)(hP:∀ k,P k->k<W.heap.size):
 Av Ae 179 #[Al (U ⟨bc,0,H⟩)] W fun e w'=>e=Aj (J Y 0)/\∃ fv bg,ChAt w' bc bf n x fv/\FarA w' W.heap.size bc P fv (Aw 128 0) bg/\KeptG W w' bc:=by
 obtain⟨M,hM⟩:∃ M:Nat,M=128:=⟨_,rfl⟩;have HMI:Hid ((128:Int)=(M:Int)):=wM (by omega);have hm1:=hc.cm;rw[hm] at hm1;have hc2:=hc.low (As W (iO (Aw M 0) 3));have hr2:=Ar W (iO (Aw M 0) 3);have c16:=hc2.cf;have f16:=hc2.free 16;have hlt:=hc.lt;have hc3:=hc2.setF (Ak (U ⟨W.heap.size,0,H⟩) M M) rfl;have hw3:=Wrote.setCell (W.alloc (iO (Aw M 0) 3)) bc 16 (Ak (U ⟨W.heap.size,0,H⟩) M M);have HC:=wM hc3;have HR:=wM ((hw3.2.2.2.2 W.heap.size (by omega)).trans hr2);have HK:=wM (((KeptG.refl W bc).then (As W (iO (Aw M 0) 3))).wrote hw3);have HL:=wM hlt;have HP:=wM hP;have HM:=wM hM;have SJ:M<=1000:=by omega
 clear hc hm hc2 hr2 hlt hc3 hw3 hP hM;go_enter Tryz.func179,Tryz.ntmps179;go_wp2_with (at_make;refine JA _ rfl _ _ rfl _ M rfl rfl HMI.out (by omega) ?_)
 go_ret;have hM:=HM.out;refine⟨rfl,Ak (U ⟨W.heap.size,0,H⟩) M M,W.heap.size,HC.out,⟨by simp,At _,by have:=HL.out;omega,fun hp=>by have:=HP.out _ hp;omega,by rw[hM],by rw[<- hM];exact HR.out⟩,HK.out⟩
theorem Xn(h:SInv w P d p X)(hf:FsAt w bf p){W:E}(hb:C w.heap.size w W){bc n:Nat}{x F:List Int}{fv:I}(hc:ChAt W bc bf n x fv){m:Nat}(hm:num x 13=(m:Int))(Ik:m≠0)(bh:m<X.cur.length)(ho:D6 m)(hF:F.length=128/\FT F=AE)(hG:X.cur.getD m []=FR F)(Q4:w.heap.size<=bc):
 Av Ae 179 #[Al (U ⟨bc,0,H⟩)] W fun e w'=>e=Aj (J Y 0)/\∃ fv bg,ChAt w' bc bf n x fv/\FarA w' W.heap.size bc P fv F bg/\KeptG W w' bc:=by
 obtain⟨h1,h2,h3⟩:=kG hF;have hlt:=h.lt;have rV:=hc.c0;have Jq:=hc.cm;rw[hm] at Jq;have Xg:((m:Int)==0)=Ay:=by simp;omega
 have cb:=(hf.low hb).cell;have hbd:C W.heap.size W W.drew:=(AC _ _).drew;have KG:=wM (QC h bh ho hG (hb.trans (hbd.mono hb.size)));have KD:Hid (∀ (V:E) (v:I),BSl V v (FR F)->Av Ae 201 #[v] V fun e w'=>e=Aj (AH #[Ak (U ⟨V.heap.size,0,H⟩) 128 128,J Y 0])/\w'.heap[V.heap.size]? =U (iO F 3)/\C V.heap.size V w'):=wM fun V v hv=>(fm hv h3).mono fun e w' ho=>by
  rcases ho with⟨_,a,b,c⟩| ⟨a,_⟩
  . rw[h2] at b;exact⟨a,b,c⟩
  . exact absurd h1 a
 have HC:Hid (∀ V,C W.heap.size W V->ChAt V bc bf n x fv):=wM fun V hv=>hc.low hv
 have HL:=wM hc.lt;have HP:Hid (∀ k,P k->k<W.heap.size):=wM fun k hk=>AA (hlt k hk) hb.size
 have HF:=wM hF.1;have d0:W.drew.cell? ⟨bc,0,H⟩=U (Al (U ⟨bf,0,H⟩)):=rV;have d15:W.drew.cell? ⟨bc,15,H⟩=U (J Y (m:Nat)):=Jq;have db:W.drew.cell? ⟨bf,0,H⟩=U p:=cb;have HS2:Hid (∀ V,C W.heap.size W V->V.cell? ⟨bc,0,H⟩=U (Al (U ⟨bf,0,H⟩))/\V.cell? ⟨bc,15,H⟩=U (J Y (m:Nat))/\V.cell? ⟨bf,0,H⟩=U p):=wM fun V hv=>⟨(hc.low hv).c0,by rw[(hc.low hv).cm,hm],(hf.low (hb.trans (hv.mono hb.size))).cell⟩
 clear h hf hb hc hm Ik bh ho hF hG Q4 h1 h2 h3 hlt hbd;go_enter Tryz.func179,Tryz.ntmps179;go_wp2
 go_region_held3 (fun V=>V.cell? ⟨bc,0,H⟩=U (Al (U ⟨bf,0,H⟩))/\V.cell? ⟨bc,15,H⟩=U (J Y (m:Nat))/\V.cell? ⟨bf,0,H⟩=U p) (first|exact⟨d0,d15,db⟩|exact s2) (first
  |(go_at_call 104;(with_reducible refine KG.out.mono ?_);rintro e w2 ⟨v,rfl,hv,hb2⟩
    have hb02:C W.heap.size W w2:=((AC _ _).drew).trans (hb2.mono (At _));have s2:=HS2.out _ hb02))
 all_goals
  go_wp2_with (first
   |(go_at_call 201;(with_reducible refine(KD.out _ _ hv).mono ?_);rintro e w3 ⟨rfl,hr3,hb3⟩
     have hb03:=hb02.trans (hb3.mono hb02.size);have hc3:=HC.out _ hb03;have c16:=hc3.cf;have f16:=hc3.free 16;have hw4:=Wrote.setCell w3 bc 16 (Ak (U ⟨w2.heap.size,0,H⟩) 128 128);have HC4:=wM (hc3.setF (Ak (U ⟨w2.heap.size,0,H⟩) 128 128) rfl);have HR4:=wM hr3;have HW4:=wM hw4;have HB3:=wM hb03;clear hc3 hw4 hr3))
  go_ret;have hl:=HL.out;have h2s:=hb02.size;refine⟨rfl,_,w2.heap.size,HC4.out,⟨HF.out,h2s,by omega,fun hp=>by have:=HP.out _ hp;omega,rfl,(HW4.out.2.2.2.2 _ (by omega)).trans HR4.out⟩,((KeptG.refl W bc).then HB3.out).wrote HW4.out⟩
end
theorem dH{W:E}{bc bf n:Nat}{x:List Int}{fv:I}(hc:ChAt W bc bf n x fv){i:Nat}(hi:i<10):
 Av Ae 140 #[Al (U ⟨bc,0,H⟩),J Y i] W fun e w'=>e=Aj (J Y (num x (3+i)))/\W=w':=by
 have c:=hc.num (k:=3+i) (by omega);rw[show 2+(3+i)=5+i by omega] at c;obtain⟨v,hv⟩:=nm (num x (3+i));rw[<- hv] at c |-
 have ei:(i:Int)<10:=by omega
 clear hc hv;go_enter Tryz.func140,Tryz.ntmps140;go_wp2;go_ret;exact⟨rfl,rfl⟩
theorem kI{W:E}{bc bf n B bg:Nat}{P:Nat->Prop}{x F:List Int}{fv:I}(hc:ChAt W bc bf n x fv)(hF:FarA W B bc P fv F bg){i:Nat}(F5:10<=i)(hi:i<138):
 Av Ae 140 #[Al (U ⟨bc,0,H⟩),J Y i] W fun e w'=>e=Aj (J Y (num F (i-10)))/\W=w':=by
 obtain⟨f1,f2,f3,f4,rfl,f6⟩:=hF;have cf:=hc.cf;have c:=Gp f6 (i-10) (by omega);obtain⟨v,hv⟩:=nm (num F (i-10));rw[show F.getD (i-10) 0=v by rw[hv];rfl] at c;rw[<- hv];obtain⟨j,hj⟩:=nm (i-10);rw[<- hj] at c;have e1:Y.wrap ((i:Int)-10)=(j:Int):=by rw[Bq _ (by omega)];omega
 have e10:¬ (i:Int)<10:=by omega
 have ej:(j:Int)<128:=by omega
 clear hc f1 f2 f3 f4 f6 hv hj F5 hi;go_enter Tryz.func140,Tryz.ntmps140;go_wp2;go_ret;exact⟨rfl,rfl⟩
theorem SN{W:E}{bc bf n B:Nat}{P:Nat->Prop}{x F:List Int}{fv:I}(hc:ChAt W bc bf n x fv){i:Nat}(hF:10<=i->∃ bg,FarA W B bc P fv F bg)(hi:i<138):
 Av Ae 140 #[Al (U ⟨bc,0,H⟩),J Y i] W fun e w'=>e=Aj (J Y (B6 x F i))/\W=w':=by
 unfold B6;by_cases h:i<10
 . rw[Au h];exact dH hc h
 . rw[Ax h,Ax (by omega)]
   obtain⟨bg,hg⟩:=hF (by omega);exact kI hc hg (by omega) hi
section
variable {w:E}{P:Nat->Prop}{d p:I}{X:XSt}{S:List Int}{N:List (List Int)}{O:List (Int × Int)}{kk:Nat}{F:Nat->List Int}{bf:Nat}
theorem bI(h:SInv w P d p X)(hf:FsAt w bf p)(hF:Fils EZ X.cur S N O kk F)(h12:kk<=12)(hl:X.cur.length=64*kk){n:Nat}(h1:1<=n)(BG:n<48){W:E}(hb:C w.heap.size w W){bc:Nat}{fv:I}(hc:ChAt W bc bf n (N.getD n []) fv)(Q4:w.heap.size<=bc):
 Av Ae 179 #[Al (U ⟨bc,0,H⟩)] W fun e w'=>e=Aj (J Y 0)/\∃ fv bg,ChAt w' bc bf n (N.getD n []) fv/\FarA w' W.heap.size bc P fv (F n) bg/\KeptG W w' bc:=by
 by_cases hm:num (N.getD n []) 13=0
 . rw[hF.m0 n h1 BG hm]
   exact U8 hc hm fun k hk=>AA (h.lt k hk) hb.size
 . have ho:=hF.map h1 BG id hm
   have h2:=ho.1;exact Xn h hf hb hc (m:=(num (N.getD n []) 13).toNat) (by omega) (by omega) (by omega) (ho.outJ h12) (hF.fl n) (hF.m1 n h1 BG hm) Q4
def tN(W:E)(P:Nat->Prop)(bf n:Nat)(x F:List Int)(i:Nat)(e:Ending)(w':E):Prop:=
 ∃ bc fv,e=Aj (AH #[Al (U ⟨bc,0,H⟩),J Y 0])/\W.heap.size<=bc/\ChAt w' bc bf n x fv/\(10<=i->∃ bg,FarA w' W.heap.size bc P fv F bg)/\C W.heap.size W w'
theorem Mu(h:SInv w P d p X)(hf:FsAt w bf p)(hT:Tab X.cur S N)(hF:Fils EZ X.cur S N O kk F)(h12:kk<=12)(hl:X.cur.length=64*kk){n:Nat}(h1:1<=n)(BG:n<48)(hk:Cy N n≠0){i:Nat}(hi:i<138){W:E}(hb:C w.heap.size w W):
 Av Ae 139 #[Al (U ⟨bf,0,H⟩),J Y n,J Y i] W (tN W P bf n (N.getD n []) (F n) i):=by
 have KO:=wM (X5 h hf hT h1 BG hk hb);have KR:=wM (fun(V:E) (bc:Nat) (fv:I) (hv:C w.heap.size w V) (hc:ChAt V bc bf n (N.getD n []) fv) (Q4:w.heap.size<=bc)=>bI h hf hF h12 hl h1 BG hv hc Q4);have HB:=wM hb;have ei:(i:Int)<138:=by omega
 clear h hf hT hF hk hb;by_cases hn:i<10
 . have en:(i:Int)<10:=by omega
   go_enter Tryz.func139,Tryz.ntmps139;go_wp2_with (go_at_call 178;refine KO.out.mono ?_;rintro e w2 ⟨bc,rfl,Q4,hc,hb2⟩)
   go_ret2;exact⟨bc,_,rfl,Q4,hc,fun h=>absurd h (by omega),hb2⟩
 . have en:¬ (i:Int)<10:=by omega
   go_enter Tryz.func139,Tryz.ntmps139
   go_wp2_with (first
    |(go_at_call 178;refine KO.out.mono ?_;rintro e w2 ⟨bc,rfl,Q4,hc,hb2⟩)
    |(go_at_call 179;refine(KR.out _ _ _ (HB.out.trans (hb2.mono HB.out.size)) hc (AI HB.out.size Q4)).mono ?_;rintro e w3 ⟨rfl,fv,bg,hc3,hg3,hk3⟩))
   go_ret2;exact⟨bc,fv,rfl,Q4,hc3,fun _=>⟨bg,hg3.1,AI hb2.size hg3.2.1,hg3.2.2⟩,hb2.trans (hk3.below Q4 hb2.size)⟩
end
end
section
open Go.RowKit
theorem q1{α:Type _}(l:List α)(i:Nat)(a:α):l.toArray.setIfInBounds i a=(l.set i a).toArray:=AV l i a
theorem q2{α:Type _}{x:α}{xs:List α}{a:α}:(x :: xs).set 0 a=a :: xs:=List.set_cons_zero
theorem q3{α:Type _}{x:α}{xs:List α}{i:Nat}{a:α}:(x :: xs).set (i+1) a=x :: xs.set i a:=List.set_cons_succ
theorem q4{α:Type _}{xs:List α}{i:Nat}(h:i<xs.toArray.size):xs.toArray[i]=xs[i]'(by simpa using h):=List.getElem_toArray h
theorem q5{α:Type _}(a:α)(l:List α)(h:0<(a :: l).length):(a :: l)[0]=a:=List.getElem_cons_zero a l h
theorem q6{α:Type _}(a:α)(l:List α)(i:Nat)(h:i+1<(a :: l).length):(a :: l)[i+1]=l[i]'(by simpa using h):=List.getElem_cons_succ a l i h
end
section
open Go.RowKit BM
section
variable {w:E}{P:Nat->Prop}{d p:I}{X:XSt}{S:List Int}{N:List (List Int)}{O:List (Int × Int)}{kk:Nat}{bf:Nat}
structure Stil (S:List Int) (kk:Nat):Prop where
 top:RA S
 s0:num S 0=64*(kk:Int)
 lim:UL S=64*(kk:Int)
end
end
section
open Go.RowKit
theorem o8:∀ kk,kk<5->1<=kk->Dy (Gv kk) (64*kk)=6:=by decide +kernel
end
section
open Go.RowKit BM
structure Pl (Ex:Nat->Nat->Prop) (G:List (List Int)) (S:List Int) (N:List (List Int)) (O:List (Int × Int)) (kk:Nat) (F:Nat->List Int):Prop where
 has:Has G O kk
 ok:OOk O kk
 tab:Tab G S N
 fi:Fils Ex G S N O kk F
theorem Tc{x F:List Int}(hx:Ec x=AE)(hF:F.length=128/\FT F=AE){i:Nat}(hi:i<139):0<=B6 x F i/\B6 x F i<=767:=by
 have hz:0<=num zeroI 13/\∀ k,num zeroI k=0:=by
  refine⟨by decide,fun k=>?_⟩;by_cases h:k<14
  . revert k;decide
  . unfold num zeroI
    rw[An,A2 (by simp;omega)];rfl
 have hf:∀ k,k<128->0<=num F k/\num F k<=767:=fun k hk=>inB_iff.1 ((Fa F).1 hF.2 k (by omega))
 unfold Ec at hx;by_cases h0:x.getD 0 0=0
 . rw[Au h0] at hx
   have e:=AX hx;unfold B6;rw[e];split
   . rw[hz.2];decide
   . split
     . rw[hz.2];decide
     . exact hf _ (by omega)
 . rw[Ax h0] at hx
   unfold Ma at hx;simp only[AQ] at hx;unfold B6;split
   . next F5=>
     by_cases hl:i<((x.drop 3).take 10).length
     . have:=inB_iff.1 ((Fa _).1 hx.2.2.2.1 i hl)
       have e:((x.drop 3).take 10).getD i 0=num x (3+i):=by
        unfold num;rw[An,AZ,Au F5,Bk,An]
       rw[e] at this;exact this
     . have:num x (3+i)=0:=by
        unfold num;rw[An,A2];· rfl
        rw[AJ,Bn] at hl;omega
       rw[this];decide
   . split
     . exact inB_iff.1 hx.2.2.2.2
     . exact hf _ (by omega)
section
variable {w0 w:E}{P0 P:Nat->Prop}{d p:I}{X:XSt}{S:List Int}{N:List (List Int)}{O:List (Int × Int)}{kk:Nat}{F:Nat->List Int}{bf n i bc:Nat}{fv:I}
structure Base (Q:List Int) (S:List Int) (kk n:Nat) (mp:Int):Prop where
 g:∀ g,g<kk->(Ch g:Int)∈Q/\(Ch g:Int)+1∈Q
 t:((CW S (n / 8):Nat):Int)∈Q
 m:mp≠0->mp∈Q
end
section
variable {w:E}{P:Nat->Prop}{d p:I}{X:XSt}{S:List Int}{N:List (List Int)}{O:List (Int × Int)}{kk:Nat}{F:Nat->List Int}{bf:Nat}
structure Frd (w:E) (P:Nat->Prop) (d p:I) (X:XSt) (S:List Int) (N:List (List Int)) (O:List (Int × Int)) (kk:Nat) (F:Nat->List Int) (bf:Nat):Prop where
 inv:SInv w P d p X
 fs:FsAt w bf p
 tab:Tab X.cur S N
 fi:Fils EZ X.cur S N O kk F
 k12:kk<=12
 len:X.cur.length=64*kk
theorem Frd.low(h:Frd w P d p X S N O kk F bf){w':E}(hb:C w.heap.size w w'):Frd w' P d p X S N O kk F bf:={ h with inv:=h.inv.low hb,fs:=h.fs.low hb }
theorem nv(h:Frd w P d p X S N O kk F bf){n i:Nat}(h1:1<=n)(BG:n<48)(hk:Cy N n≠0)(hi:i<138):
 Av Ae 175 #[Al (U ⟨bf,0,H⟩),J Y n,J Y i] w fun e w'=>e=Aj (AH #[J Y (B6 (N.getD n []) (F n) i),J Y 0])/\C w.heap.size w w':=by
 have KO:=wM (Mu h.inv h.fs h.tab h.fi h.k12 h.len h1 BG hk hi (AC _ _));have KA:Hid (∀ (V:E) (bc:Nat) (fv:I),ChAt V bc bf n (N.getD n []) fv->(10<=i->∃ bg,FarA V w.heap.size bc P fv (F n) bg)->Av Ae 140 #[Al (U ⟨bc,0,H⟩),J Y i] V fun e w'=>e=Aj (J Y (B6 (N.getD n []) (F n) i))/\V=w'):=wM fun V bc fv hc hF=>SN hc hF hi
 clear h hk;go_enter Tryz.func175,Tryz.ntmps175
 go_wp2_with (first
  |(go_at_call 139;refine KO.out.mono ?_;rintro e w2 ⟨bc,fv,rfl,Q4,hc,tA,hb2⟩)
  |(go_at_call 140;refine(KA.out _ _ _ hc tA).mono ?_;rintro e w' ⟨rfl,rfl⟩))
 go_ret2;exact⟨rfl,hb2⟩
end
end
section
open Go.RowKit Go.ChangeShapes Go.WideShapes
structure O12 where
 k:Int
 b:Int
 l:Int
 g:Int
 n:Int
 i:Int
 a:Int
instance:Inhabited O12:=⟨⟨0,0,0,0,0,0,0⟩⟩
end
section
open Go.RowKit
def wu(G G':List (List Int)):Prop:=G'=G\/∃ g D,g<12/\G'=putG G g D
structure Both (O O2:List (Int × Int)) (kk:Nat) (F Fr:FuncId) (xs:List I) (e:Ending):Prop where
 land:∀ {w0 w P M d p r X n},Mid w0 w P M d p r (Sv X) n O O kk->RSp w M r n O->Av Ae F (p :: xs).toArray w fun e' w'=>e'=e/\∃ P' X',Mid w0 w' P' M d p r X' n O O2 kk/\RSp w' M r n O/\Chg (PM P M) (PM P' M) w w'/\wu X.is X'.call/\X'.is=X.is
 refe:∀ {w0 w P M d p r X n},Mid w0 w P M d p r X n O O2 kk->RSp w M r n O->Av Ae Fr (r :: xs).toArray w fun e' w'=>e'=e/\Mid w0 w' P M d p r X n O O2 kk/\RSp w' M r n O2/\Chg (PM P M) (PM P M) w w'
structure Tsd (w0 w:E) (P:Nat->Prop) (d p:I) (X:XSt) (S:List Int) (N:List (List Int)) (O:List (Int × Int)) (kk bf:Nat):Prop where
 inv:SInv w P d p X
 wi:X.wi=Ay
 fu:X.ds.fu=Ay
 has:Has X.is O kk
 ok:OOk O kk
 tab:Tab X.is S N
 fs:FsAt w bf p
 nb:¬ P bf
 bN:w0.heap.size<=bf
 pN:∀ x,P x->w0.heap.size<=x
 be:C w0.heap.size w0 w
theorem jW(bs:Nat)(w:E):Av Ae 14 #[Al (U ⟨bs,0,H⟩)] w fun e w'=>e=Aj (Al (U ⟨w.heap.size,0,H⟩))/\FsAt w' w.heap.size (Al (U ⟨bs,0,H⟩))/\C w.heap.size w w':=by
 have hb:=As w (Am #[Al (U ⟨bs,0,H⟩)] 66);have hr:=Ar w (Am #[Al (U ⟨bs,0,H⟩)] 66);go_enter Tryz.func14,Tryz.ntmps14;go_wp2;go_ret;exact⟨rfl,hr,hb⟩
theorem oy{kk:Nat}(h1:1<=kk)(h2:kk<=12)(w0:E):∀ {w:E},C w0.heap.size w0 w->Av Ae 15 #[J Y (64*(kk:Int)),J Y (64*(kk:Int))] w fun e w'=>∃ b,e=Aj (Al (U ⟨b,0,H⟩))/\C w0.heap.size w0 w'/\
 Av Ae 14 #[Al (U ⟨b,0,H⟩)] w' fun e w''=>∃ bf P d X,e=Aj (Al (U ⟨bf,0,H⟩))/\Tsd w0 w'' P d (Al (U ⟨b,0,H⟩)) X (Eb kk) newN (Gv kk) kk bf/\bf<w''.heap.size:=fun {w} hb=>by
 refine(YH h1 h2 w).mono fun e w' ⟨b,P,d,G,ds,he,hI,Ly,hH,hT,hP,hb1⟩=>⟨b,he,hb.trans (hb1.mono hb.size),?_⟩
 refine(jW b w').mono fun e w'' ⟨pz,hfs,hb2⟩=>?_
 have hs:=hb.size;have IL:=hb1.size;have hlt:=hI.lt;refine⟨w'.heap.size,P,d,_,pz,⟨hI.low hb2,rfl,Ly,hH,aA h1 h2,hT,hfs,fun hp=>by have:=hlt _ hp;omega,by omega,fun x hx=>by have:=hP x hx;omega,?_⟩,(Ah.1 hfs).1⟩;exact(hb.trans (hb1.mono hs)).trans (hb2.mono (by omega))
end
section
open Go.RowKit BM
structure Fsd (w0 w:E) (P:Nat->Prop) (d p:I) (X:XSt) (S:List Int) (N:List (List Int)) (O:List (Int × Int)) (kk:Nat) (F:Nat->List Int) (bf:Nat):Prop where
 inv:SInv w P d p X
 wi:X.wi=Ay
 fu:X.ds.fu=Ay
 pl:Pl EZ X.is S N O kk F
 st:Stil S kk
 fs:FsAt w bf p
 nb:¬ P bf
 bN:w0.heap.size<=bf
 pN:∀ x,P x->w0.heap.size<=x
 be:C w0.heap.size w0 w
section
variable {w0 w:E}{P:Nat->Prop}{d p:I}{X:XSt}{S:List Int}{N:List (List Int)}{O:List (Int × Int)}{kk:Nat}{F:Nat->List Int}{bf:Nat}
theorem Fsd.low(h:Fsd w0 w P d p X S N O kk F bf){w':E}(hb:C w.heap.size w w'):Fsd w0 w' P d p X S N O kk F bf:=
 { h with inv:=h.inv.low hb,fs:=h.fs.low hb,be:=h.be.trans (hb.mono h.be.size) }
theorem Fsd.rd(h:Fsd w0 w P d p X S N O kk F bf):Frd w P d p X S N O kk F bf:=by
 have hc:X.cur=X.is:=by unfold XSt.cur;rw[h.wi];rfl
 exact⟨h.inv,h.fs,by rw[hc];exact h.pl.tab,by rw[hc];exact h.pl.fi,h.pl.ok.k12,by rw[hc];exact h.pl.has.len⟩
end
def rh:Nat->List (List Int)
 |0=>newN
 |c+1=>(rh c).set (2+c) (MF 1)
def td:Nat->List Int:=fun _=>Aw 128 0
theorem al:∀ c,(rh c).length=48
 |0=>rfl
 |c+1=>by rw[rh,AF];exact al c
theorem Ud:∀ c m,c<=4->(rh c).getD m []=if 2<=m/\m<2+c then MF 1 else newN.getD m []
 |0,m,_=>by rw[Ax (by omega)];rfl
 |c+1,m,h=>by
  rw[rh,Ea (by rw[al];omega),Ud c m (by omega)];by_cases e:m=2+c
  . rw[Au e,Au (by omega)]
  . rw[Ax e]
    by_cases c2:2<=m/\m<2+c
    . rw[Au c2,Au (by omega)]
    . rw[Ax c2,Ax (by omega)]
theorem eN:∀ m,m<48->(newN.getD m []).getD 0 0=if m=1 then 2 else 0:=by decide
theorem J0:∀ m,m<48->∀ j,j<11->(newN.getD m []).getD (3+j) 0=0:=by decide
theorem PV{c m:Nat}(hc:c<=4)(hm:m<48):Cy (rh c) m=if m=1 then 2 else if 2<=m/\m<2+c then 1 else 0:=by
 unfold Cy;rw[Ud c m hc];by_cases h:2<=m/\m<2+c
 . rw[Au h,Ax (by omega),Au h];rfl
 . rw[Ax h,eN m hm,Ax h]
theorem jG{kk:Nat}(h1:1<=kk)(G:List (List Int)):Fils EZ G (Eb kk) newN (Gv kk) kk td:=by
 have hz:∀ n i,n<48->i<139->B6 (newN.getD n []) (td n) i=0:=fun n i hn hi=>by
  unfold B6 num;split
  . next F5=>exact J0 n hn i (by omega)
  . split
    . exact J0 n hn 10 (by decide)
    . show(Aw 128 (0:Int)).getD (i-10) 0=0
      rw[An,Cu];split <;> rfl
 refine⟨fun n=>⟨rfl,(by decide:FT (Aw 128 0)=AE)⟩,fun _ _ _ _=>rfl,fun n _ hn hm=>absurd (J0 n hn 10 (by decide)) hm,fun n i _ hn hi _ hl=>absurd (hz n i hn hi) hl,fun t ht=>?_⟩;have e:CW (Eb kk) t=43+t:=by
  have hi2:t=0\/t=1\/t=2\/t=3\/t=4\/t=5:=by omega
  rcases hi2 with rfl|rfl|rfl|rfl|rfl|rfl <;> rfl
 rw[e];unfold Gv;rw[FX _ _ _ (by omega)];unfold Gr;rw[Ax (by rw[(Mk (j:=43+t)).2 (by omega) (by omega)];decide),Au (by omega)];exact Prod.ext rfl (by simp only;omega)
theorem iA{kk:Nat}(h1:1<=kk)(h2:kk<=12):Stil (Eb kk) kk:=by
 refine⟨fun i=>?_,rfl,?_⟩
 . by_cases hi:i<12
   . have hi2:i=0\/i=1\/i=2\/i=3\/i=4\/i=5\/i=6\/i=7\/i=8\/i=9\/i=10\/i=11:=by omega
     have e0:num (Eb kk) 0=64*(kk:Int):=rfl;rcases hi2 with rfl|rfl|rfl|rfl|rfl|rfl|rfl|rfl|rfl|rfl|rfl|rfl
     . rw[e0];omega
     all_goals first
      |exact(by decide:(0:Int)<=9223372036854775807)
      |exact(by decide:(43:Int)<=9223372036854775807)
      |exact(by decide:(44:Int)<=9223372036854775807)
      |exact(by decide:(45:Int)<=9223372036854775807)
      |exact(by decide:(46:Int)<=9223372036854775807)
      |exact(by decide:(47:Int)<=9223372036854775807)
      |exact(by decide:(48:Int)<=9223372036854775807)
   . unfold num
     rw[An,A2 (by show 12<=i;omega)];decide
 . unfold UL
   rw[Au (Pr h1 h2),Ax (by show ¬ (0:Int)=2;decide)];rfl
theorem eM(k:Int){i:Nat}(hi:i<139):B6 (MF k) (Aw 128 0) i=0:=by
 unfold B6 num;split
 . next F5=>
   have:∀ j,j<10->(MF k).getD (3+j) 0=0:=fun j hj=>by
    have tp:j=0\/j=1\/j=2\/j=3\/j=4\/j=5\/j=6\/j=7\/j=8\/j=9:=(by omega);rcases tp with rfl|rfl|rfl|rfl|rfl|rfl|rfl|rfl|rfl|rfl <;> rfl
   exact this i F5
 . split
   . rfl
   . rw[An,Cu];split <;> rfl
theorem mY{c m:Nat}(hc:c<=4)(hm:m<48){i:Nat}(hi:i<139):B6 ((rh c).getD m []) (td m) i=0:=by
 rw[Ud c m hc];split
 . exact eM 1 hi
 . unfold B6 num
   split
   . next F5=>exact J0 m hm i (by omega)
   . split
     . exact J0 m hm 10 (by decide)
     . show(Aw 128 (0:Int)).getD (i-10) 0=0
       rw[An,Cu];split <;> rfl
structure Fat (G N:List (List Int)) (F:Nat->List Int) (n sz:Nat) (M:Nat->Option (List Int)):Prop where
 kd:Cy N n=1\/Cy N n=2\/Cy N n=3
 zs:num (N.getD n []) 2=(sz:Int)
 sb:sz<=35328
 dt:∀ i,i<138->M i=if B6 (N.getD n []) (F n) i=0 then H else U (G.getD (B6 (N.getD n []) (F n) i).toNat [])
 hi:∀ i,138<=i->M i=H
 mp:num (N.getD n []) 13≠0 ↔ ∃ b,10<=b/\b<138/\B6 (N.getD n []) (F n) b≠0
 ok:OkB M
section
variable {G G':List (List Int)}{S:List Int}{N N':List (List Int)}{O O':List (Int × Int)}{kk:Nat}{F F':Nat->List Int}{n sz:Nat}{M:Nat->Option (List Int)}{X X':XSt}{Q:List Int}
theorem Fat.k0(h:Fat G N F n sz M):Cy N n≠0:=by rcases h.kd with e|e|e <;> rw[e] <;> decide
theorem Fat.none(h:Fat G N F n sz M){i:Nat}(hi:i<138)(h0:B6 (N.getD n []) (F n) i=0):M i=.none:=by rw[h.dt i hi,Au h0]
theorem Fat.some(h:Fat G N F n sz M){i:Nat}(hi:i<138)(h0:B6 (N.getD n []) (F n) i≠0):M i=.some (G.getD (B6 (N.getD n []) (F n) i).toNat []):=by rw[h.dt i hi,Ax h0]
end
section
variable {w:E}{P:Nat->Prop}{d p:I}{X:XSt}{S:List Int}{N:List (List Int)}{O:List (Int × Int)}{kk:Nat}{F:Nat->List Int}{bf:Nat}
theorem Pc(h:Frd w P d p X S N O kk F bf){n:Nat}(h1:1<=n)(BG:n<48)(hk:Cy N n≠0):
 Av Ae 56 #[Al (U ⟨bf,0,H⟩),J Y n] w fun e w'=>e=Aj (AH #[BN (iC (N.getD n [])).toArray,J Y 0])/\C w.heap.size w w':=by
 have KG0:=fun V hV=>He (W:=V) h.inv h.fs h.tab h1 BG hV
 have hx:=h.tab.n.get BG;unfold Cy at hk;generalize N.getD n []=x at KG0 hx hk |-
 obtain⟨kd,ln,sz,d0,d1,d2,d3,d4,d5,d6,d7,d8,d9,mp,rfl⟩:=LZ hx;have Ur:(kd==0)=Ay:=by simpa using hk
 have KG:Hid (∀ V,C w.heap.size w V->Av Ae 13 #[Al (U ⟨bf,0,H⟩),J Y n] V fun e w'=>e=Aj (AH #[BN #[J Y kd,J Y ln,J Y sz,J Y d0,J Y d1,J Y d2,J Y d3,J Y d4,J Y d5,J Y d6,J Y d7,J Y d8,J Y d9,J Y mp],J Y 0])/\C V.heap.size V w'):=wM KG0;clear KG0 h hx hk h1;have hb1:=As w (iO zeroI 44);have hr1:=Ar w (iO zeroI 44);obtain⟨w1,hw1⟩:=nm (w.alloc (iO zeroI 44));rw[<- hw1] at hb1 hr1;have h1:w.alloc (Am #[J Y 0,J Y 0,J Y 0,J Y 0,J Y 0,J Y 0,J Y 0,J Y 0,J Y 0,J Y 0,J Y 0,J Y 0,J Y 0,J Y 0] 44)=w1:=by rw[hw1];rfl
 have H1:=wM h1;have HR1:Hid (∀ V,C w1.heap.size w1 V->V.heap[w.heap.size]? =U (iO zeroI 44)):=wM fun V hv=>Bs hr1 hv
 have HB1:=wM hb1;clear h1 hw1 hr1;go_enter Tryz.func56,Tryz.ntmps56
 go_wp2_with (first
  |(go_at_call 13;rw[H1.out];refine(KG.out _ HB1.out).mono ?_;rintro e w2 ⟨rfl,hb2⟩
    have hb3:=hb2.trans ((As w2 (Am #[J Y kd,J Y ln,J Y sz,J Y d0,J Y d1,J Y d2,J Y d3,J Y d4,J Y d5,J Y d6,J Y d7,J Y d8,J Y d9,J Y mp] 44)).mono hb2.size);have hr3:=HR1.out _ hb3)
  |(with_reducible refine FA rfl (.tmp 4) (.tmp 22) rfl w.heap.size rfl [kd,ln,sz,d0,d1,d2,d3,d4,d5,d6,d7,d8,d9,mp] zeroI rfl rfl rfl _ hr3 ?_;intro w9 hw9 hr9))
 refine AS (Vs rfl _ _ w.heap.size _ [kd,ln,sz,d0,d1,d2,d3,d4,d5,d6,d7,d8,d9,mp] _ rfl rfl hr9 rfl) rfl ⟨rfl,(hb1.trans (hb3.mono hb1.size)).trans (hw9.below (At _))⟩
end
end
section
open Go.RowKit
theorem RF:∀ (l:List I) (k:Nat) (cells:List I),k+l.length<=cells.length->
 (l.zipIdx k).foldl (fun(cs:Array I) (x:I × Nat)=>cs.setIfInBounds (0+x.2) x.1) cells.toArray=(splice cells k l).toArray
 |[],k,cells,_=>by simp[splice]
 |v :: l,k,cells,h=>by
  have hl:k+(l.length+1)<=cells.length:=by simpa using h
  rw[List.zipIdx_cons,List.foldl_cons,show cells.toArray.setIfInBounds (0+k) v=(cells.set k v).toArray by simp,
   RF l (k+1) _ (by rw[AF];omega)]
  have e:=list_seg_step cells k v l (by omega);simp only[splice]
  simpa [Dt] using Bt List.toArray e
theorem Zd(cells:Array I)(size:Nat)(vs:List I)(hs:vs.length=size)(hl:cells.size=size):
 Instr.fill (fun i=>U (i*size,size)) cells [(0,BN vs.toArray)]=U vs.toArray:=by
 obtain⟨L,rfl⟩:∃ L:List I,cells=L.toArray:=⟨cells.toList,by simp⟩;have hL:L.length=size:=by simpa using hl
 have hf:=RF vs 0 L (by omega);rw[Instr.fill];have c1:¬ (vs.toArray.size≠size\/0*size+vs.toArray.size > L.toArray.size):=by simp;omega
 simp only[show(I.agg vs.toArray).cells=vs.toArray from rfl];rw[Ax (by simpa using c1)];rw[EM L vs (by omega)] at hf;simp only[Instr.fill,Nat.zero_mul];congr 1;refine Eq.trans ?_ hf;simp
end
section
open Go.RowKit BM
def Hk(a n:Nat):Nat:=if n=0 then 0 else (a%256+n+255) / 256
def Dq(a n k:Nat):Nat:=min n (256*k-a%256)
def t_(a n k:Nat):List Int:=[((a / 256+k:Nat):Int),(((a+Dq a n k)%256:Nat):Int),(((a+Dq a n k)%256+(Dq a n (k+1)-Dq a n k):Nat):Int)]
def eG(a n:Nat):List (List Int):=(Bu (Hk a n)).map (t_ a n)
theorem MM(a n:Nat):Dq a n 0=0:=by unfold Dq;omega
theorem Zy(a n k:Nat):Dq a n k<=n:=Nat.min_le_left _ _
theorem Ki{a n k:Nat}(h:k<Hk a n):Dq a n k<n/\Dq a n k<Dq a n (k+1)/\Dq a n (k+1)-Dq a n k=min (256-(a+Dq a n k)%256) (n-Dq a n k)/\(a+Dq a n k) / 256=a / 256+k:=by
 unfold Hk at h;split at h
 . omega
 . next h0=>
   unfold Dq;obtain⟨o,ho⟩:=nm (a%256);rw[<- ho] at h |-
   have ha:a=256*(a / 256)+o:=(by omega);have hk:256*k<o+n:=(by omega);have ho2:o<256:=(by omega);obtain⟨b,hb⟩:=nm (a / 256);rw[<- hb] at ha |-
   subst ha;clear ho h hb;by_cases k0:k=0
   . subst k0
     refine⟨by omega,by omega,by omega,by omega⟩
   . have e:min n (256*k-o)=256*k-o:=by omega
     rw[e];have e2:256*b+o+(256*k-o)=256*(b+k):=(by omega);rw[e2];refine⟨by omega,by omega,by omega,by omega⟩
theorem Tx(a n:Nat):Dq a n (Hk a n)=n:=by
 unfold Dq Hk;split
 . omega
 . omega
theorem IA(a n:Nat):(eG a n).length=Hk a n:=by unfold eG;rw[Ba,Dp]
theorem aY{a n k:Nat}(h:k<Hk a n):(eG a n)[k]'(by rw[IA];exact h)=t_ a n k:=by unfold eG;rw[Co,Cc]
def wy(L:List (List Int)):Prop:=∀ x∈L,x.length=3
def SR(w:E)(B:Nat)(v:I)(O:List (List Int)):Prop:=wy O/\w.ownsRow B 127 3 v O.length (nC O)
theorem SR.below{w w':E}{B:Nat}{v:I}{O:List (List Int)}(h:SR w B v O)(hb:C w.heap.size w w'):SR w' B v O:=by
 refine⟨h.1,h.2.1,?_⟩;rcases h.2.2 with h| ⟨g,cap,cur,hv,hg,hh,r⟩
 . exact AU h
 . exact AW ⟨g,cap,cur,hv,hg,by rw[hb.block g (Ah.1 hh).1];exact hh,r⟩
theorem rJ(w:E)(B:Nat):SR w B (Ak H 0 0) []:=⟨fun x hx=>absurd hx Bi,Dn w B _ _⟩
theorem SR.cells{w:E}{B:Nat}{v:I}{O:List (List Int)}(h:SR w B v O)(h0:0<O.length):∃ g cap,v=Ak (U ⟨g,0,H⟩) O.length cap/\B<=g/\g<w.heap.size/\O.length<=cap/\∀ k (hk:k<O.length) (j:Nat),j<3->w.cell? ⟨g,k*3+j,H⟩=U (J Y (O[k].getD j 0)):=by
 rcases h.2.2 with⟨_,hl⟩| ⟨g,cap,cur,hv,hg,hh,Ii,Jq,Jr,ht⟩
 . omega
 . refine⟨g,cap,hv,hg,(Ah.1 hh).1,Ii,fun k hk j hj=>?_⟩
   rw[Aq _ _ _ _ _ _ hh];have hl3:O[k].length=3:=h.1 _ (Be hk);have hf:=Gb (f:=iC) (L:=O) (s:=3) (fun x hx=>by rw[Cz,h.1 x hx]) k hk;have e1:cur[k*3+j]? =(nC O)[k*3+j]? :=by
    rw[<- ht,AZ,Au (by omega)];exact(Array.getElem?_toList).symm
   rw[e1];have e2:((nC O).drop (k*3)).take 3=iC O[k]:=hf;have e3:(((nC O).drop (k*3)).take 3)[j]? =(iC O[k])[j]? :=(by rw[e2]);rw[AZ,Au hj,Bk] at e3;rw[e3];unfold iC;rw[DR,AL (by omega),An,AL (by omega)];rfl
theorem VW:(Ae.info? 127).map (fun i=>(i.zero,i.size,i.bytes))=U (U (BN #[J Y 0,J Y 0,J Y 0]),3,24):=by kernel_rfl
theorem OA{w:E}{ops:Array BE}{rest:List BE}{o:BE}{a:Act}{Q:Exit->Act->E->Prop}(Du:o.guard=H)(y:Operand)(ho:o.op=.buildSlice 124 1 #[(0,y)])
 (x:List Int) (hx:x.length=3) (hy:a.eval y=BN (iC x).toArray)
 (h:Cf Ae ops Q rest (a.put o.dst (Ak (U ⟨w.heap.size,0,H⟩) 1 1)) (w.alloc (iO x 127))):Cf Ae ops Q (o :: rest) a w:=by
 obtain⟨i,h2,h3,h4,h5⟩:=Bf VW;refine wpList_buildSlice Du 124 127 1 _ ho (iC x).toArray i _ Tryz.underlying124 h2 h3 (by rw[h4];decide) (by rw[h4];decide) ?_ h;rw[h4];simp only[Fc,DO,IJ,hy];exact Zd _ 3 (iC x) (by rw[Cz,hx]) (by simp)
theorem NH(w1:E)(x:List Int)(qC:x.length=3){ops:Array BE}{rest:List BE}{o:BE}{a:Act}{Q:Exit->Act->E->Prop}(Du:o.guard=H)(s y:Operand)
 (ho:o.op=.call { callee:=.builtin .append,args:=#[s,y],argTypes:=#[124,124] })
 (B:Nat) (v:I) (O:List (List Int)) (hs:a.eval s=v) (hown:SR w1 B v O) (hO:O.length<=1000000) (hy:a.eval y=Ak (U ⟨w1.heap.size,0,H⟩) 1 1) (hB:B<=w1.heap.size)
 (h:∀ v' w',SR w' B v' (O ++ [x])->C B w1 w'->Cf Ae ops Q rest (a.put o.dst v') w'):Cf Ae ops Q (o :: rest) a (w1.alloc (iO x 127)):=by
 obtain⟨t,h2,h3,h4,h5⟩:=Bf VW;have hbel:C w1.heap.size w1 (w1.alloc (iO x 127)):=As _ _;have QW:(w1.alloc (iO x 127)).heap[w1.heap.size]? =U (iO x 127):=Ar w1 _;have hf:=hown.below hbel;refine FU _ Du s y 124 ho B 127 t _ 3 24 Tryz.underlying124 h2 h3 h4 h5 rfl (by decide) v O.length _ hs hf.2 ⟨w1.heap.size,0,H⟩ 1 1 (iC x) hy (by rw[Cz,qC]) ?_ (Qy x) (by simp only[maxLen];omega) (by omega) (by simp;omega) fun v' w' h6 h7 _=>?_
 . intro m u hm
   rw[BY,Br];have:=Gn QW m u hm;rw[Br] at this;exact this
 . refine h v' w' ⟨fun z hz=>?_,?_⟩ ((hbel.mono hB).trans ((AC _ _).grown h7 (by simp;omega) fun k hk=>(BO hf.2 k hk).1))
   . rcases BI.1 hz with hz|hz
     . exact hown.1 z hz
     . simp at hz;subst hz;exact qC
   . have e:nC (O ++ [x])=nC O ++ iC x:=by simp[nC]
     rw[AD,e];exact h6
section
variable {w:E}{P:Nat->Prop}{d p:I}{X:XSt}{S:List Int}{N:List (List Int)}{O:List (Int × Int)}{kk:Nat}{F:Nat->List Int}{bf n sz:Nat}{M:Nat->Option (List Int)}{Q:List Int}
theorem Frd.data(h:Frd w P d p X S N O kk F bf)(h1:1<=n)(BG:n<48){i:Nat}(hi:i<138){v:Nat}(hv:B6 (N.getD n []) (F n) i=(v:Int))(h0:v≠0):v<X.is.length/\D6 v:=by
 have ho:=h.fi.ow n i h1 BG (by omega) id (by rw[hv];omega);rw[hv] at ho;have hj:=ho.outJ h.k12;rw[Cd] at hj;refine⟨?_,hj⟩;rw[<- h.inv.xok.curLen,h.len];have:=ho.1;omega
theorem Frd.getB(h:Frd w P d p X S N O kk F bf)(ft:Fat X.cur N F n sz M)(h1:1<=n)(BG:n<48){i:Nat}(hi:i<138){v:Nat}(hv:B6 (N.getD n []) (F n) i=(v:Int))(h0:v≠0){V:E}(hV:C w.heap.size w V):
 Av Ae 104 #[p,J Y v] V fun e w'=>∃ g cap T rest,e=Aj (AH #[Ak (U ⟨g,0,H⟩) 256 cap,J Y 0])/\Rw w' V.heap.size (Ak (U ⟨g,0,H⟩) 256 cap) (Fz M i) g cap T rest/\C V.heap.size V w':=by
 obtain⟨hl,hj⟩:=h.data h1 BG hi hv h0;refine(Ww (h.inv.low hV) hl).mono ?_;rintro e w' ⟨u,l,he,⟨g,cap,T,rest,hr⟩,hE,hb⟩;have e1:l=Fz M i:=by
  rw[hE hj];unfold Fz;rw[ft.some hi (by rw[hv];omega),hv,Cd];rfl
 subst e1;have hu:=hr.val;subst hu;exact⟨g,cap,T,rest,he,hr,hb⟩
end
section
variable {w:E}{P:Nat->Prop}{d p:I}{X:XSt}{S:List Int}{N:List (List Int)}{O:List (Int × Int)}{kk:Nat}{F:Nat->List Int}{bf n sz:Nat}{M:Nat->Option (List Int)}{Q:List Int}
def wl(w:E)(N:List (List Int))(F:Nat->List Int)(M:Nat->Option (List Int))(n i:Nat)(e:Ending)(w':E):Prop:=
 ∃ g cap T rest,e=Aj (AH #[J Y (B6 (N.getD n []) (F n) i),Ak (U ⟨g,0,H⟩) 256 cap,J Y 0])/\Rw w' w.heap.size (Ak (U ⟨g,0,H⟩) 256 cap) (Fz M i) g cap T rest/\C w.heap.size w w'
theorem Qo(h:Frd w P d p X S N O kk F bf)(ft:Fat X.cur N F n sz M)(h1:1<=n)(BG:n<48){i:Nat}(hi:i<138):
 Av Ae 135 #[Al (U ⟨bf,0,H⟩),J Y n,J Y i] w (wl w N F M n i):=by
 have KA:=wM (nv h h1 BG ft.k0 hi);by_cases h0:B6 (N.getD n []) (F n) i=0
 . have hbl:Fz M i=z256:=by unfold Fz;rw[ft.none hi h0];rfl
   unfold wl;rw[hbl];rw[h0] at KA |-
   have HR:Hid (∀ V:E,Rw ((V.alloc (Am (AK 256 (J .u8 0)) 5)).drew) V.heap.size (Ak (U ⟨V.heap.size,0,H⟩) 256 256) z256 V.heap.size 256 5 []):=wM fun V=>by
    refine⟨QG,O7,rfl,At _,?_,At _⟩;have:=Ar V (Am (AK 256 (J .u8 0)) 5);refine Eq.trans this ?_;rw[BW];unfold z256;rw[List.map_replicate,List.toArray_replicate]
   have sc:=fun W=>Yx W 256 (by decide) 256 rfl
   obtain⟨Z,hZ⟩:=nm (AK 256 (J .u8 0));rw[<- hZ] at HR sc;clear h ft h0 hbl hZ;go_enter Tryz.func135,Tryz.ntmps135;go_wp2_with (go_at_call 175;refine KA.out.mono ?_;rintro e w2 ⟨rfl,hb2⟩)
   go_region
   go_wp2;go_ret3;exact⟨_,_,_,_,rfl,{ HR.out w2 with ge:=hb2.size },(hb2.trans ((As w2 _).mono hb2.size)).drew⟩
 . have hbd:=Tc (h.tab.n.frm n BG) (h.fi.fl n) (i:=i) (by omega)
   obtain⟨v,hv⟩:∃ v:Nat,B6 (N.getD n []) (F n) i=(v:Int):=⟨(B6 (N.getD n []) (F n) i).toNat,by omega⟩;have hv0:v≠0:=(by omega);have KG:=wM (fun V hV=>h.getB ft h1 BG hi hv hv0 (V:=V) hV);have HF:=wM (fun V (hV:C w.heap.size w V)=>(h.fs.low hV).cell);unfold wl;rw[hv] at KA |-
   have ev:((v:Int)==0)=Ay:=by simpa using hv0
   have HS:Hid (w.heap.size=w.heap.size):=wM rfl;clear h ft h0 hbd hv hv0;go_enter Tryz.func135,Tryz.ntmps135
   go_wp2_with (first
    |(go_at_call 175;refine KA.out.mono ?_;rintro e w2 ⟨rfl,hb2⟩;have c2:=HF.out _ hb2)
    |(go_at_call 104;refine(KG.out _ hb2).mono ?_;rintro e w3 ⟨g,cap,T,rest,rfl,hr3,hb3⟩))
   go_ret3;exact⟨g,cap,T,rest,rfl,{ hr3 with ge:=AI hb2.size hr3.ge },hb2.trans (hb3.mono hb2.size)⟩
end
theorem Ui{a n:Int}(hn:¬ 0<n)(w:E):Av Ae 57 #[J Y a,J Y n] w fun e w'=>e=Aj (Ak H 0 0)/\w=w':=by
 go_enter Tryz.func57,Tryz.ntmps57;go_wp2;go_loopw [1,5] (fun y v wr=>w=wr/\y=J Y n/\v=Ak H 0 0) (fun _ _ _=>0)
 case atStart=>exact⟨rfl,rfl,rfl⟩
 case round=>
  obtain⟨rfl,rfl,rfl⟩:=hrel;go_wp2;go_ret;exact⟨rfl,rfl⟩
theorem Yn{a n:Nat}(ha:a<=100000)(hn:n<=100000)(w:E):Av Ae 57 #[J Y a,J Y n] w fun e w'=>∃ v,e=Aj v/\SR w' w.heap.size v (eG a n)/\C w.heap.size w w':=by
 have H0:Hid (SR w w.heap.size (Ak H 0 0) ((eG a n).take 0)/\C w.heap.size w w):=wM ⟨rJ w _,AC _ _⟩;have HST:Hid (∀ k,k<Hk a n->Dq a n k<n/\Dq a n k<Dq a n (k+1)/\Dq a n (k+1)-Dq a n k=min (256-(a+Dq a n k)%256) (n-Dq a n k)/\(a+Dq a n k) / 256=a / 256+k):=wM fun k=>Ki
 have HEND:=wM (Tx a n);have HLE:=wM (Zy a n);have HTK:Hid (∀ k,k<Hk a n->(eG a n).take (k+1)=(eG a n).take k ++ [t_ a n k]):=wM fun k hk=>by
  rw[Bz (by rw[IA];exact hk),aY hk]
 have HFU:Hid ((eG a n).take (Hk a n)=eG a n):=wM (AR (by rw[IA];exact At _));have HTL:Hid (∀ k,((eG a n).take k).length<=1000000):=wM fun k=>by
  rw[AJ,IA];unfold Hk;split <;> omega
 have HZ:Hid (Dq a n 0=0):=wM (MM a n);obtain⟨L,hL⟩:=nm (eG a n);rw[<- hL] at H0 HTK HFU HTL |-
 obtain⟨c,hc⟩:=nm (Hk a n);rw[<- hc] at HST HEND HTK HFU;have HSPA:Hid (∀ k,t_ a n k=[((a / 256+k:Nat):Int),(((a+Dq a n k)%256:Nat):Int),(((a+Dq a n k)%256+(Dq a n (k+1)-Dq a n k):Nat):Int)]):=wM fun _=>rfl
 clear hL hc;go_enter Tryz.func57,Tryz.ntmps57;go_wp2;go_loopw [0,1,5] (fun x y v wr=>∃ k:Nat,k<=c/\x=J Y ((a+Dq a n k:Nat):Int)/\y=J Y ((n-Dq a n k:Nat):Int)/\Hid (SR wr w.heap.size v (L.take k)/\C w.heap.size w wr)) (fun _ y _ _=>(intOf y).toNat)
 case atStart=>exact⟨0,AT _,by rw[HZ.out];rfl,by rw[HZ.out];rfl,H0⟩
 case round=>
  obtain⟨k,hk,rfl,rfl,HS⟩:=hrel;clear H0;by_cases hlt:k<c
  . obtain⟨s1,s2,s3,s4⟩:=HST.out k hlt
    have Lo:=HLE.out k;obtain⟨A,hA⟩:=nm (a+Dq a n k);obtain⟨R,hR⟩:=nm (n-Dq a n k);obtain⟨f,hf⟩:=nm (A%256);obtain⟨q,hq⟩:=nm (A / 256);obtain⟨t,ht⟩:=nm (min (f+R) 256);have HSP:Hid (t_ a n k=[(q:Int),(f:Int),(t:Int)]):=wM (by
     rw[HSPA.out k,<- hA,<- hf,s3,<- hA,<- hf,<- hR,<- s4,<- hA,<- hq];congr 3;omega)
    have HN1:Hid (a+Dq a n (k+1)=A+(t-f)/\n-Dq a n (k+1)=R-(t-f)):=wM (by
     rw[<- hA] at s3;omega)
    rw[<- hA,<- hR];have hA2:A<=200000:=(by omega);have hR2:R<=100000:=(by omega);have hR0:0<R:=(by omega);have hf2:f<256:=(by omega);have WR:f<t:=(by omega);have vl:t<=256:=(by omega);have htR:t-f<=R:=(by omega);have e1:((A:Int)).tmod 256=(f:Int):=(by rw[DT (by omega)];omega);have e2:((A:Int)).tdiv 256=(q:Int):=(by rw[Int.tdiv_eq_ediv_of_nonneg (by omega)];omega);have e3:min ((f:Int)+(R:Int)) 256=(t:Int):=(by omega);have sh:q<=1000:=(by omega);have eR:(0:Int)<(R:Int):=(by omega);have hown:=HS.out.1;have hbel:=HS.out.2;have HSZ:=wM hbel.size;have HTK1:=wM (HTK.out k hlt);have HOW:=wM hown;have HBE:=wM hbel;clear s1 s2 s3 s4 Lo hA hR hf hq ht HS hown hbel
    go_wp2_with (first
     |(with_reducible refine OA rfl (.tmp 21) rfl [(q:Int),(f:Int),(t:Int)] rfl rfl ?_)
     |(at_builtin
       refine NH wr [(q:Int),(f:Int),(t:Int)] rfl rfl (.tmp 16) (.tmp 22) rfl w.heap.size _ (L.take k) rfl HOW.out (HTL.out k) rfl HSZ.out ?_;intro v2 w2 Ot hb2))
    have HS2:Hid (SR w2 w.heap.size v2 (L.take (k+1))/\C w.heap.size w w2):=wM ⟨by rw[HTK1.out,HSP.out];exact Ot,HBE.out.trans hb2⟩;clear Ot hb2;go_roundw
    case rel=>exact⟨k+1,by omega,by rw[HN1.out.1];congr 1;omega,by rw[HN1.out.2];congr 1;omega,HS2⟩
    case measure=>simp[intOf];omega
  . obtain rfl:k=c:=by omega
    rw[HEND.out,Nat.sub_self];have HS2:=HS;rw[HFU.out] at HS2;clear HS;go_wp2;go_ret;exact⟨_,rfl,HS2.out.1,HS2.out.2⟩
section
variable {w:E}{P:Nat->Prop}{d p:I}{X:XSt}{S:List Int}{N:List (List Int)}{O:List (Int × Int)}{kk:Nat}{F:Nat->List Int}{bf n sz:Nat}{M:Nat->Option (List Int)}{Q:List Int}
def wJ(w:E)(B:Nat)(v:I)(a K:Nat):Prop:=
 ∃ ao cap,v=Ak ao (Hk a K) cap/\(0<Hk a K->∃ g,ao=U ⟨g,0,H⟩/\B<=g/\g<w.heap.size/\∀ k,k<Hk a K->w.cell? ⟨g,k*3,H⟩=U (J Y ((a / 256+k:Nat):Int))/\w.cell? ⟨g,k*3+1,H⟩=U (J Y (((a+Dq a K k)%256:Nat):Int))/\
   w.cell? ⟨g,k*3+2,H⟩=U (J Y (((a+Dq a K k)%256+(Dq a K (k+1)-Dq a K k):Nat):Int)))
theorem SR.spv{B:Nat}{v:I}{a K:Nat}(h:SR w B v (eG a K)):wJ w B v a K:=by
 by_cases h0:0<Hk a K
 . obtain⟨g,cap,hv,hB,hg,_,hc⟩:=h.cells (by rw[IA];exact h0)
   rw[IA] at hv;refine⟨_,cap,hv,fun _=>⟨g,rfl,hB,hg,fun k hk=>?_⟩⟩;have hx:=fun j hj=>hc k (by rw[IA];exact hk) j hj
   rw[aY hk] at hx;exact⟨hx 0 (by decide),hx 1 (by decide),hx 2 (by decide)⟩
 . rcases h.2.2 with⟨hv,hl⟩| ⟨g,cap,cur,hv,_⟩
   . exact⟨H,0,by rw[hv];congr 1;omega,fun e=>absurd e h0⟩
   . rw[IA] at hv
     exact⟨_,_,hv,fun e=>absurd e h0⟩
theorem Oh{a K:Nat}{Z:Int}(hZ:Z=(K:Int)\/(K=0/\¬ 0<Z))(ha:0<K->a<=100000)(hK:K<=100000)(w:E):Av Ae 57 #[J Y a,J Y Z] w fun e w'=>∃ v,e=Aj v/\wJ w' w.heap.size v a K/\C w.heap.size w w':=by
 by_cases h0:0<K
 . obtain rfl:Z=(K:Int):=by omega
   exact(Yn (ha h0) hK w).mono fun e w' ⟨v,he,hs,hb⟩=>⟨v,he,hs.spv,hb⟩
 . have e0:K=0:=by omega
   subst e0;refine(Ui (a:=(a:Int)) (n:=Z) (by omega) w).mono ?_;rintro e w' ⟨he,rfl⟩;exact⟨_,he,⟨H,0,rfl,fun h=>absurd h (by unfold Hk;rw[Au rfl];omega)⟩,AC _ _⟩
theorem kN(w:E)(B:Nat):OB w B (Ak H 0 0) []:=⟨EY,Dn w B _ _⟩
theorem RW(h:Frd w P d p X S N O kk F bf)(ft:Fat X.cur N F n sz M)(h1:1<=n)(BG:n<48){a m:Nat}(ha:(a:Int)<=9223372036854775807)(hm:(m:Int)<=9223372036854775807):
 Av Ae 96 #[Al (U ⟨bf,0,H⟩),J Y n,J Y a,J Y m] w fun e w'=>∃ v,e=Aj (AH #[v,J Y 0])/\OB w' w.heap.size v (JI M a (min m (sz-a)))/\C w.heap.size w w':=by
 have lU:=ft.sb;obtain⟨K,hK⟩:=nm (min m (sz-a));rw[<- hK];have KF0:=Pc h h1 BG ft.k0;have Ed:=ft.zs;have hx:=h.tab.n.get BG;generalize N.getD n []=x at KF0 Ed hx;obtain⟨kd,ln,sz',d0,d1,d2,d3,d4,d5,d6,d7,d8,d9,mp,rfl⟩:=LZ hx;have NO:sz'=(sz:Int):=Ed;subst NO;have KF:Hid (Av Ae 56 #[Al (U ⟨bf,0,H⟩),J Y n] w fun e w'=>e=Aj (AH #[BN #[J Y kd,J Y ln,J Y sz,J Y d0,J Y d1,J Y d2,J Y d3,J Y d4,J Y d5,J Y d6,J Y d7,J Y d8,J Y d9,J Y mp],J Y 0])/\C w.heap.size w w'):=wM KF0;have KS:=wM (fun V=>Oh (a:=a) (K:=K) (Z:=min (m:Int) ((sz:Int)-(a:Int))) (by omega) (by omega) (by omega) V);have KR:=wM (fun V (hV:C w.heap.size w V) i (hi:i<138)=>Qo (h.low hV) ft h1 BG hi);have HOK:=wM ft.ok;have e1:(0:Int)<=(a:Int):=by omega
 have e2:(0:Int)<=(m:Int):=by omega
 have e3:Y.wrap ((sz:Int)-(a:Int))=(sz:Int)-(a:Int):=Bq _ (by omega);have HEND:=wM (Tx a K);have HST:Hid (∀ k,k<Hk a K->Dq a K k<K/\Dq a K k<Dq a K (k+1)/\Dq a K (k+1)-Dq a K k=min (256-(a+Dq a K k)%256) (K-Dq a K k)/\(a+Dq a K k) / 256=a / 256+k/\a / 256+k<138/\a+K<=35328):=wM fun k hk=>by
  obtain⟨s1,s2,s3,s4⟩:=Ki hk;exact⟨s1,s2,s3,s4,by omega,by omega⟩
 have bj:Hk a K<=1000:=by
  unfold Hk;split <;> omega
 have HZ:Hid (Dq a K 0=0):=wM (MM a K);have HFS:=wM (fun V (hV:C w.heap.size w V)=>(h.fs.low hV).cell);clear h ft KF0 Ed hx hK;go_enter Tryz.func96,Tryz.ntmps96
 go_wp2_with (first
  |(go_at_call 56;refine KF.out.mono ?_;rintro e w2 ⟨rfl,hb2⟩
    have hb3:=hb2.trans ((As w2 (Am #[J Y kd,J Y ln,J Y sz,J Y d0,J Y d1,J Y d2,J Y d3,J Y d4,J Y d5,J Y d6,J Y d7,J Y d8,J Y d9,J Y mp] 44)).mono hb2.size))
  |(go_at_call 57;refine(KS.out _).mono ?_;rintro e w4 ⟨v,rfl,hv4,hb4⟩;obtain⟨ao,cap,rfl,Dc⟩:=hv4))
 have HB4:Hid (C w.heap.size w w4):=wM (hb3.trans (hb4.mono hb3.size));have HCE:=wM Dc;obtain⟨c,hc⟩:=nm (Hk a K);rw[<- hc] at HCE HST HEND bj |-
 have H0:Hid (OB w4 w4.heap.size (Ak H 0 0) (JI M a (Dq a K 0))/\C w4.heap.size w4 w4):=wM ⟨by rw[HZ.out];exact kN _ _,AC _ _⟩;clear hb2 hb3 hb4 Dc hc;go_loopw [12,42] (fun b i wr=>∃ k:Nat,k<=c/\i=J Y k/\Hid (OB wr w4.heap.size b (JI M a (Dq a K k))/\C w4.heap.size w4 wr)) (fun _ i _=>c-(intOf i).toNat)
 case atStart=>exact⟨0,AT _,rfl,H0⟩
 case round=>
  obtain⟨k,hk,rfl,HS⟩:=hrel;clear H0;by_cases hlt:k<c
  . obtain⟨g,rfl,Xc,hg,mi⟩:=HCE.out (by omega)
    obtain⟨s1,s2,s3,s4,s5,s6⟩:=HST.out k hlt;have hbw:=HB4.out.trans (HS.out.2.mono HB4.out.size);obtain⟨c0,c1,c2⟩:=mi k hlt;have va:=fun(p:Addr) (hp:p.block<w4.heap.size)=>HS.out.2.cell hp
    rw[<- va ⟨g,_,H⟩ hg] at c0 c1 c2;obtain⟨A,hA⟩:=nm (a+Dq a K k);obtain⟨f,hf⟩:=nm (A%256);obtain⟨q,hq⟩:=nm (a / 256+k);obtain⟨s,hs⟩:=nm (Dq a K (k+1)-Dq a K k);obtain⟨t,ht⟩:=nm (f+s);rw[<- hq] at c0;rw[<- hA,<- hf] at c1 c2;rw[<- hs,<- ht] at c2;rw[<- hA,<- hf,<- hs] at s3;have hf256:f<256:=(by omega);have Na:0<s:=(by omega);have bC:t<=256:=(by omega);have WR:f<=t:=(by omega);have HTF:Hid (t-f=s):=wM (by omega);have HRD:Hid (JI M a (Dq a K (k+1))=JI M a (Dq a K k) ++ ((Fz M q).drop f).take s):=wM (by
     have e:Dq a K (k+1)=Dq a K k+s:=(by omega);rw[e,UJ,Sw HOK.out (a:=a+Dq a K k) (i:=q) (o:=f) (n:=s) (by omega) (by omega)])
    have HLE:Hid (f+s<=256):=wM (by omega);have hb1:=As wr (Am #[J Y q,J Y f,J Y t] 127);have hr1:(wr.alloc (Am #[J Y q,J Y f,J Y t] 127)).heap[wr.heap.size]? =U (Am #[J Y q,J Y f,J Y t] 127 (0,0)):=Ar wr _;have HRB:=wM (KR.out _ (hbw.trans (hb1.mono hbw.size)) q (by omega));have HSP:Hid (∀ V,C (wr.alloc (Am #[J Y q,J Y f,J Y t] 127)).heap.size (wr.alloc (Am #[J Y q,J Y f,J Y t] 127)) V->V.cell? ⟨wr.heap.size,1,H⟩=U (J Y f)/\V.cell? ⟨wr.heap.size,2,H⟩=U (J Y t)):=wM fun V hV=>by
     have:=Bs hr1 hV;exact⟨by rw[Aq _ _ _ _ _ _ this];rfl,by rw[Aq _ _ _ _ _ _ this];rfl⟩
    have HB1:=wM hb1;have HOB:=wM HS.out.1;have HBR:=wM HS.out.2;have HLL:Hid ((JI M a (Dq a K k)).length+(((Fz M q).drop f).take s).length<=140737488355328):=wM (by
     have h1:Dq a K k<=100000:=(by omega);have h2:(((Fz M q).drop f).take s).length<=s:=(by rw[AJ];exact Nat.min_le_left _ _);rw[FI];omega)
    have ek:(k:Int)<(c:Int):=(by omega);clear s1 s2 s3 s4 s5 s6 hbw va hA hf hq hs ht hb1 hr1 HS mi
    go_wp2_with (first
     |(go_at_call 135;refine HRB.out.mono ?_;rintro e w6 ⟨g2,cap2,T2,rest2,rfl,hr6,hb6⟩
       obtain⟨x1,x2⟩:=HSP.out _ hb6;have vm:=hr6.cap;have HB6:Hid (C wr.heap.size wr w6):=wM (HB1.out.trans (hb6.mono HB1.out.size));have HBS:Hid (BSl w6 (Ak (U ⟨g2,0+f,H⟩) s (cap2-f)) (((Fz M q).drop f).take s)):=wM (by
        have:=hr6.bsl;rw[show(256:Nat)=(Fz M q).length from hr6.len.symm] at this;exact this.mid f s (by rw[hr6.len];exact HLE.out))
       have HOB6:=wM (HOB.out.below HB6.out);have HSZ6:Hid (w4.heap.size<=w6.heap.size):=wM (AI HBR.out.size HB6.out.size);clear hr6 hb6)
     |(with_reducible refine DY rfl (.tmp 59) (.tmp 61) (.tmp 63) rfl g2 0 256 cap2 rfl (f:Int) (t:Int) rfl rfl f t s HTF.out rfl rfl WR (by omega) (by omega) ?_)
     |(at_builtin
       refine BQ w6 rfl (.tmp 58) (.tmp 64) rfl w4.heap.size _ (JI M a (Dq a K k)) rfl HOB6.out w6 (Ak (U ⟨g2,0+f,H⟩) s (cap2-f)) (((Fz M q).drop f).take s) rfl HBS.out (fun _ _=>rfl) HLL.out HSZ6.out ?_;intro v7 w7 hob7 lV _))
    have HOB7:Hid (OB w7 w4.heap.size v7 (JI M a (Dq a K (k+1)))/\C w4.heap.size w4 w7):=wM ⟨by rw[HRD.out];exact hob7,HBR.out.trans ((HB6.out.mono HBR.out.size).trans lV)⟩;clear hob7 lV;clear x1 x2 vm;have Oq:k+1<=c:=(by omega);have hkm:c-(k+1)<c-k:=(by omega);go_roundw
    case rel=>exact⟨k+1,Oq,by go_num,HOB7⟩
    case measure=>simp[intOf];omega
  . obtain rfl:k=c:=by omega
    rw[HEND.out] at HS;go_wp2;go_ret2;exact⟨_,rfl,HS.out.1.more HB4.out.size,HB4.out.trans (HS.out.2.mono HB4.out.size)⟩
end
end
section
open Go.RowKit
def El(s:ByteArray):List Int:=s.data.toList.map fun c=>(c.toNat:Int)
theorem DD(s:ByteArray):(El s).length=s.size:=by
 rw[El,Ba,Array.length_toList];rfl
theorem MO(s:ByteArray):Fv (El s):=CH fun x hx=>by
 obtain⟨c,_,rfl⟩:=BZ.1 hx;have:=c.toNat_lt;omega
theorem XY(s:ByteArray):BX (El s)=s:=by
 obtain⟨⟨l⟩⟩:=s;unfold BX El;congr 2;simp only[List.map_map]
 conv=>rhs;rw[<- List.map_id l]
 apply Ck;intro c _;simp
theorem Y4(s:ByteArray):Lib.strCells s=(El s).map (J .u8):=by
 unfold Lib.strCells El;rw[List.map_map];rfl
def jT(x:Int):Bool:=!(x==0 || x==47)
def LF(s:ByteArray):Bool:=(El s).all jT
theorem T5(l:List UInt8)(c:UInt8):decide (Lib.indexByte l c<0)=l.all (fun b=>!(b==c)):=by
 induction l with
 |nil=>rfl
 |cons b l ih=>
  have hg:=Lib.indexByte_ge l c;unfold Lib.indexByte;rw[List.all_cons,<- ih];cases hb:b==c
  . rw[Ax (by simp)]
    by_cases e:Lib.indexByte l c= -1
    . rw[e];rfl
    . rw[Ax (by simpa using e),AB (by omega),AB (by omega)];rfl
  . rw[Au rfl];rfl
theorem eh(s:ByteArray):LF s=(decide (Lib.indexByte s.data.toList 0<0) && decide (Lib.indexByte s.data.toList 47<0)):=by
 rw[T5,T5];unfold LF El;rw[List.all_map];induction s.data.toList with
 |nil=>rfl
 |cons b l ih=>
  rw[List.all_cons,List.all_cons,List.all_cons,ih];have e:(jT ∘ fun c:UInt8=>(c.toNat:Int)) b=(!(b==0) && !(b==47)):=by
   have e0:((b.toNat:Int)==0)=(b==0):=by
    rw[Bool.eq_iff_iff,Da,Da];constructor
    . intro h;apply UInt8.toNat_inj.1;have:(0:UInt8).toNat=0:=rfl;omega
    . intro h;rw[h];rfl
   have e1:((b.toNat:Int)==47)=(b==47):=by
    rw[Bool.eq_iff_iff,Da,Da];constructor
    . intro h;apply UInt8.toNat_inj.1;have:(47:UInt8).toNat=47:=rfl;omega
    . intro h;rw[h];rfl
   show(!((b.toNat:Int)==0 || (b.toNat:Int)==47))=_
   rw[e0,e1,Bool.not_or]
  rw[e];cases (!(b==0)) <;> cases (!(b==47)) <;> simp
def dot1:ByteArray:=⟨#[46]⟩
def dot2:ByteArray:=⟨#[46,46]⟩
def Hx(s:ByteArray):Bool:=decide (1<=s.size) && (decide (s.size<=13) && (!(s.toList==dot1.toList) && (!(s.toList==dot2.toList) && LF s)))
def Fl(e:Int × ByteArray):Bool:=decide (1<=e.1) && (decide (e.1<48) && Hx e.2)
theorem eP{s:ByteArray}(h:Hx s=AE):1<=s.size/\s.size<=13:=by
 unfold Hx at h;rw[AQ,AQ,A4,A4] at h;exact⟨h.1,h.2.1⟩
theorem Qc{e:Int × ByteArray}(h:Fl e=AE):1<=e.1/\e.1<48/\Hx e.2=AE:=by
 unfold Fl at h;rw[AQ,AQ,A4,A4] at h;exact⟨h.1,h.2.1,h.2.2⟩
theorem DK{e:Int × ByteArray}(h:Fl e=AE):1<=e.2.size/\e.2.size<=13:=eP (Qc h).2.2
def WW(e:Int × ByteArray):List Int:=BT e.1 2 ++ ((e.2.size:Int) :: El e.2)
def Ei(e:Int × ByteArray):List Int:=WW e ++ Aw (13-e.2.size) 0
theorem LO(e:Int × ByteArray):(WW e).length=3+e.2.size:=by
 rw[WW,AD,Bc,Bm,DD];omega
theorem D4{e:Int × ByteArray}(h:e.2.size<=13):(Ei e).length=16:=by
 rw[Ei,AD,LO,A3];omega
theorem ny{e:Int × ByteArray}(h:e.2.size<=13):Fv (WW e):=
 DL (CH (la _ _)) (CH fun x hx=>by
  rcases Ew.1 hx with rfl|hx
  . omega
  . exact C3 (MO _) x hx)
theorem U7{e:Int × ByteArray}(h:e.2.size<=13):Fv (Ei e):=DL (ny h) (C4 _)
theorem kO(n:Nat)(h:n<=13):BT (n:Int) 1=[(n:Int)]:=by
 rw[Hf,Hh,List.nil_append,Nat.mul_zero,Int.pow_zero,Int.ediv_one,DQ (by omega) (by omega)]
theorem fL(e:Int × ByteArray)(h:e.2.size<=13):WW e=(([] ++ BT e.1 2) ++ BT (e.2.size:Int) 1) ++ El e.2:=by
 rw[kO _ h,WW,List.nil_append];simp
def ou(c:List Int):Int × ByteArray:=(Cl c 0 2,BX ((c.drop 3).take (c.getD 2 0).toNat))
def SV(c:List Int):Prop:=1<=c.getD 2 0/\c.getD 2 0<=13
theorem Vt(e:Int × ByteArray):(Ei e).getD 2 0=e.2.size:=by
 have h2:=Bc e.1 2;rw[Ei,WW,A7,An,BR (by omega),h2];rfl
theorem Tf{e:Int × ByteArray}(h:Fl e=AE):ou (Ei e)=e:=by
 obtain⟨h1,h2,_⟩:=Qc h;have hl:=Bc e.1 2;have e1:Cl (Ei e) 0 2=e.1:=by
  unfold Cl;rw[CP,Ei,WW,A7,Do (by omega),AR (by omega),JP _ _ (by omega)];exact DQ (by omega) (by omega)
 have e2:((Ei e).drop 3).take ((Ei e).getD 2 0).toNat=El e.2:=by
  rw[Vt,Cd];have e3:Ei e=(BT e.1 2 ++ [(e.2.size:Int)]) ++ (El e.2 ++ Aw (13-e.2.size) 0):=by
   rw[Ei,WW];simp
  have e4:(BT e.1 2 ++ [(e.2.size:Int)]).length=3:=by simp[Bc]
  rw[e3,List.drop_left' e4,Dz (DD _)]
 rw[ou,e1,e2,XY]
theorem Me{e:Int × ByteArray}(h:Fl e=AE):SV (Ei e):=by
 have:=DK h;unfold SV;rw[Vt];omega
theorem JU:¬ SV (Aw 16 0):=by
 intro h;have e:(Aw 16 (0:Int)).getD 2 0=0:=rfl;rw[SV,e] at h;omega
theorem I3{α β:Type}{f:α->List β}{s:Nat}:∀ {L:List α},(∀ x∈L,(f x).length=s)->(L.flatMap f).length=L.length*s
 |[],_=>by simp
 |x :: L,h=>by
  rw[CD,AD,I3 (fun z hz=>h z (By _ hz)),h x (by simp),Bm,Nat.succ_mul];omega
theorem XU{α β:Type}{f:α->List β}{s:Nat}(R:List β):∀ {L:List α},(∀ x∈L,(f x).length=s)->∀ (i:Nat) (hi:i<L.length),(((L.flatMap f) ++ R).drop (i*s)).take s=f L[i]
 |[],_,i,hi=>by simp at hi
 |x :: L,h,0,_=>by
  rw[CD,Nat.zero_mul,CP,A7,Do (by rw[h x (by simp)];exact At _),<- h x (by simp),BP];rfl
 |x :: L,h,i+1,hi=>by
  have hx:=h x (by simp);rw[CD,show(i+1)*s=(f x).length+i*s by rw[hx,Nat.succ_mul];omega,A7,List.drop_length_add_append];exact XU R (fun z hz=>h z (By _ hz)) i (by simpa using hi)
def Kg(O:List (Int × ByteArray)):Bool:=decide (O.length<=16) && O.all Fl
theorem Ia{O:List (Int × ByteArray)}(h:Kg O=AE):O.length<=16/\∀ x∈O,Fl x=AE:=by
 unfold Kg at h;rw[AQ,A4,Dh] at h;exact h
theorem Pq{O:List (Int × ByteArray)}(hl:O.length<=16)(h:∀ x∈O,Fl x=AE):Kg O=AE:=by
 unfold Kg;rw[AQ,A4,Dh];exact⟨hl,h⟩
theorem bR{O:List (Int × ByteArray)}(hl:16<O.length):Kg O=Ay:=by
 unfold Kg;rw[AB (by omega)];rfl
theorem mP{O:List (Int × ByteArray)}(k:Nat)(hk:k<O.length)(h:Fl (O.getD k default)=Ay):Kg O=Ay:=by
 cases e:Kg O
 . rfl
 . have:=(Ia e).2 O[k] (Be hk)
   have e2:O.getD k default=O[k]:=(by simp[hk]);rw[e2,this] at h;cases h
def J4(O:List (Int × ByteArray))(k:Nat):List Int:=(O.take k).flatMap Ei
def JD(O:List (Int × ByteArray)):List Int:=O.flatMap Ei ++ Aw (256-16*O.length) 0
theorem X3{O:List (Int × ByteArray)}(k:Nat)(h:k<O.length):J4 O (k+1)=J4 O k ++ Ei (O.getD k default):=by
 unfold J4;rw[Bz h,DW];simp[h]
theorem XM(O:List (Int × ByteArray)):J4 O O.length=O.flatMap Ei:=by unfold J4;rw[BP]
theorem L4{O:List (Int × ByteArray)}(k:Nat)(hk:k<=O.length)(h:∀ j,j<k->Fl (O.getD j default)=AE):(J4 O k).length=16*k:=by
 unfold J4;rw[I3 (s:=16),AJ,FL hk,Nat.mul_comm];intro x hx;obtain⟨j,hj,rfl⟩:=Cw hx;rw[AJ] at hj;have h1:=h j (by omega);rw[Ut];have e2:O.getD j default=O[j]:=by simp[show j<O.length by omega]
 rw[e2] at h1;exact D4 (DK h1).2
theorem N7{O:List (Int × ByteArray)}(h:Kg O=AE):(JD O).length=256:=by
 obtain⟨h1,h2⟩:=Ia h;rw[JD,AD,I3 (s:=16) (fun x hx=>D4 (DK (h2 x hx)).2),A3];omega
theorem ff{O:List (Int × ByteArray)}(k:Nat)(h:∀ j,j<k->Fl (O.getD j default)=AE):Fv (J4 O k):=CH fun x hx=>by
 unfold J4 at hx;obtain⟨e,he,hx⟩:=List.mem_flatMap.1 hx;obtain⟨j,hj,rfl⟩:=Cw he;rw[AJ] at hj;have h1:=h j (by omega);rw[Ut] at hx;have e2:O.getD j default=O[j]:=by simp[show j<O.length by omega]
 rw[e2] at h1;exact C3 (U7 (DK h1).2) x hx
def Et(b:List Int)(k:Nat):List Int:=(b.drop (k*16)).take 16
theorem LQ{O:List (Int × ByteArray)}(h:Kg O=AE)(i:Nat)(hi:i<O.length):Et (JD O) i=Ei O[i]:=
 XU _ (fun x hx=>D4 (DK ((Ia h).2 x hx)).2) i hi
theorem Pp{O:List (Int × ByteArray)}(h:Kg O=AE)(NX:O.length<16):Et (JD O) O.length=Aw 16 0:=by
 obtain⟨h1,h2⟩:=Ia h;have hl:=I3 (f:=Ei) (s:=16) (fun x hx=>D4 (DK (h2 x hx)).2);unfold Et JD;rw[<- hl,List.drop_left,List.take_replicate];congr 1;omega
def MI(O:List (Int × ByteArray))(b:List Int):Prop:=Kg O=AE/\JD O=b
def Gd(b:List Int)(k:Nat):List (Int × ByteArray):=(Bu k).map fun i=>ou (Et b i)
theorem MB(b:List Int)(k:Nat):(Gd b k).length=k:=by simp[Gd]
theorem X4(b:List Int)(k:Nat):Gd b (k+1)=Gd b k ++ [ou (Et b k)]:=by
 unfold Gd;rw[GX,Cp];rfl
theorem Kz(P:List Int->Prop)(hP:∀ e,Fl e=AE->P (Ei e))(h0:¬ P (Aw 16 0)){b:List Int}{k:Nat}(hk:k<=16)(h1:∀ i,i<k->P (Et b i))(h2:k<16->¬ P (Et b k)){O:List (Int × ByteArray)}(hO:MI O b):Gd b k=O:=by
 obtain⟨ha,rfl⟩:=hO;obtain⟨hl,hf⟩:=Ia ha;have hkl:k=O.length:=by
  rcases Nat.lt_trichotomy k O.length with h|h|h
  . refine absurd ?_ (h2 (by omega))
    rw[LQ ha k h];exact hP _ (hf _ (Be h))
  . exact h
  . refine absurd (h1 O.length h) ?_
    rw[Pp ha (by omega)];exact h0
 subst hkl;apply Bg (MB _ _);intro i h3 h4;have e:(Gd (JD O) O.length)[i]=ou (Et (JD O) i):=by simp[Gd]
 rw[e,LQ ha i h4,Tf (hf _ (Be h4))]
theorem dG{O O':List (Int × ByteArray)}{b:List Int}(h:MI O b)(h':MI O' b):O=O':=by
 have hb:=h.2;have ha:=h.1;obtain⟨hl,hf⟩:=Ia h.1;have h1:∀ i,i<O.length->SV (Et b i):=fun i hi=>by
  rw[<- hb,LQ ha i hi];exact Me (hf _ (Be hi))
 have h2:O.length<16->¬ SV (Et b O.length):=fun NX=>by
  rw[<- hb,Pp ha NX];exact JU
 have a:=Kz SV (fun e=>Me) JU hl h1 h2 h;have b:=Kz SV (fun e=>Me) JU hl h1 h2 h';rw[<- a,b]
def ESl(w:E)(v:I)(O:List (Int × ByteArray)):Prop:=
 (v=Ak H 0 0/\O=[])\/∃ a cap,v=Ak (U a) O.length cap/\∀ j,j<O.length->a.block<w.heap.size/\a.spot=H/\
   w.cell? ⟨a.block,a.off+j*2,H⟩=U (J Y (O.getD j default).1)/\w.cell? ⟨a.block,a.off+j*2+1,H⟩=U (.string (O.getD j default).2)
theorem ESl.below{w w':E}{v:I}{O:List (Int × ByteArray)}(h:ESl w v O)(hb:C w.heap.size w w'):ESl w' v O:=by
 rcases h with h| ⟨a,cap,hv,hc⟩
 . exact AU h
 . refine AW ⟨a,cap,hv,fun j hj=>?_⟩
   obtain⟨h1,h2,h3,h4⟩:=hc j hj;exact⟨AA h1 hb.size,h2,by rw[hb.cell (p:=⟨a.block,a.off+j*2,H⟩) h1,h3],by rw[hb.cell (p:=⟨a.block,a.off+j*2+1,H⟩) h1,h4]⟩
theorem ESl.open'{w:E}{v:I}{O:List (Int × ByteArray)}(h:ESl w v O):∃ ao cap,v=Ak ao O.length cap/\(0<O.length->∃ b off,ao=U ⟨b,off,H⟩/\b<w.heap.size/\
 ∀ j,j<O.length->w.cell? ⟨b,off+j*2,H⟩=U (J Y (O.getD j default).1)/\w.cell? ⟨b,off+j*2+1,H⟩=U (.string (O.getD j default).2)):=by
 rcases h with⟨hv,hk⟩| ⟨⟨b,off,spot⟩,cap,hv,hc⟩
 . exact⟨H,0,by rw[hv,hk];rfl,fun h=>by rw[hk] at h;simp at h⟩
 . refine⟨_,cap,hv,fun h0=>?_⟩
   obtain⟨h1,h2,_⟩:=hc 0 h0;obtain rfl:spot=H:=h2;exact⟨b,off,rfl,h1,fun j hj=>(hc j hj).2.2⟩
theorem ESl.shape{w:E}{v:I}{O:List (Int × ByteArray)}(h:ESl w v O):∃ ao cap,v=Ak ao O.length cap:=by
 obtain⟨ao,cap,hv,_⟩:=h.open';exact⟨ao,cap,hv⟩
def cE(x:Int × ByteArray):List I:=[J Y x.1,.string x.2]
def JE(O:List (Int × ByteArray)):List I:=O.flatMap cE
theorem iB:∀ x:Int × ByteArray,(cE x).length=2:=fun _=>rfl
theorem E7(O:List (Int × ByteArray)):(JE O).length=O.length*2:=CM fun x _=>iB x
theorem Is(O P:List (Int × ByteArray)):JE (O ++ P)=JE O ++ JE P:=DW
theorem JT(O:List (Int × ByteArray))(j:Nat)(h:j<O.length):(JE O)[j*2]? =U (J Y (O.getD j default).1)/\(JE O)[j*2+1]? =U (.string (O.getD j default).2):=by
 have hg:=Gb (f:=cE) (s:=2) (L:=O) (fun x _=>iB x) j h;have e:O.getD j default=O[j]:=by simp[h]
 rw[e];have h0:=Bt (fun z=>z[0]?) hg;have h1:=Bt (fun z=>z[1]?) hg;simp only[AZ,Bk,Nat.add_zero] at h0 h1;rw[Au (by omega)] at h0 h1;exact⟨h0,h1⟩
def ER(w:E)(B:Nat)(T:Cg)(v:I)(O:List (Int × ByteArray)):Prop:=w.ownsRow B T 2 v O.length (JE O)
theorem YB(w:E)(B:Nat)(T:Cg):ER w B T (Ak H 0 0) []:=Dn w B _ _
theorem ER.sl{w:E}{B:Nat}{T:Cg}{v:I}{O:List (Int × ByteArray)}(h:ER w B T v O):ESl w v O:=by
 rcases h.2 with⟨hv,hl⟩| ⟨g,cap,cur,hv,hg,hh,Ii,Jq,Jr,ht⟩
 . exact AU ⟨hv,AO hl⟩
 . refine AW ⟨_,cap,hv,fun j hj=>⟨(Ah.1 hh).1,rfl,?_⟩⟩
   obtain⟨h1,h2⟩:=JT O j hj;rw[<- ht,AZ] at h1 h2;rw[Au (by omega)] at h1 h2;rw[Br,Aq _ _ _ _ _ _ hh,Aq _ _ _ _ _ _ hh];exact⟨by simpa using h1,by simpa using h2⟩
theorem ER.below{w w':E}{B:Nat}{T:Cg}{v:I}{O:List (Int × ByteArray)}(h:ER w B T v O)(hb:C w.heap.size w w'):ER w' B T v O:=by
 refine⟨h.1,?_⟩;rcases h.2 with h| ⟨g,cap,cur,hv,hg,hh,r⟩
 . exact AU h
 . exact AW ⟨g,cap,cur,hv,hg,by rw[hb.block g (Ah.1 hh).1];exact hh,r⟩
theorem qh:(Ae.info? 75).map (fun i=>(i.zero,i.size,i.bytes))=U (U (BN #[J Y 0,.string ByteArray.empty]),2,24):=by kernel_rfl
theorem MD(w1:E)(i:Int)(n:ByteArray){ops:Array BE}{rest:List BE}{o:BE}{a:Act}{Q:Exit->Act->E->Prop}(Du:o.guard=H)(S T:Cg)(s y:Operand)
 (ho:o.op=.call { callee:=.builtin .append,args:=#[s,y],argTypes:=#[S,S] })
 (hu:Ae.underlying S=U (.slice T)) (hi:(Ae.info? T).map (fun i=>(i.zero,i.size,i.bytes))=U (U (BN #[J Y 0,.string ByteArray.empty]),2,24))
 (B:Nat) (v:I) (O:List (Int × ByteArray)) (hs:a.eval s=v) (hown:ER w1 B T v O) (hO:O.length<=1000000) (hy:a.eval y=Ak (U ⟨w1.heap.size,0,H⟩) 1 1) (hB:B<=w1.heap.size)
 (h:∀ v' w',ER w' B T v' (O ++ [(i,n)])->C B w1 w'->Cf Ae ops Q rest (a.put o.dst v') w'):Cf Ae ops Q (o :: rest) a (w1.alloc (Am #[J Y i,.string n] T)):=by
 obtain⟨t,h2,h3,h4,h5⟩:=Bf hi;have hbel:C w1.heap.size w1 (w1.alloc (Am #[J Y i,.string n] T)):=As _ _;have QW:(w1.alloc (Am #[J Y i,.string n] T)).heap[w1.heap.size]? =U (Am #[J Y i,.string n] T (0,0)):=Ar w1 _;have hf:=hown.below hbel;refine FU _ Du s y S ho B T t _ 2 24 hu h2 h3 h4 h5 rfl (by decide) v O.length _ hs hf ⟨w1.heap.size,0,H⟩ 1 1 [J Y i,.string n] hy rfl ?_ ?_ (by simp only[maxLen];omega) (by omega) (by simp;omega) fun v' w' h6 h7 _=>?_
 . intro m u hm
   have hm2:m<2:=by simpa using (Bb.1 hm).1
   rw[BY,Br,Aq _ _ _ _ _ _ QW,<- hm];have:m=0\/m=1:=(by omega);rcases this with rfl|rfl <;> rfl
 . intro u hu
   simp at hu;rcases hu with rfl|rfl <;> rfl
 . refine h v' w' ?_ ((hbel.mono hB).trans ((AC _ _).grown h7 (by simp;omega) fun k hk=>(BO hf k hk).1))
   show w'.ownsRow B T 2 v' (O ++ [(i,n)]).length (JE (O ++ [(i,n)]))
   rw[AD,Is];exact h6
theorem Ir(w:E){ops:Array BE}{rest:List BE}{o:BE}{a:Act}{Q:Exit->Act->E->Prop}(Du:o.guard=H)(s x:Operand)
 (ho:o.op=.call { callee:=.builtin .append,args:=#[s,x],argTypes:=#[77,9] })
 (B:Nat) (v:I) (l:List Int) (hs:a.eval s=v) (hown:OB w B v l) (n:ByteArray) (hx:a.eval x=.string n) (hlen:l.length+n.size<=1000000) (hB:B<=w.heap.size)
 (h:∀ v' w',OB w' B v' (l ++ El n)->C B w w'->Cf Ae ops Q rest (a.put o.dst v') w'):Cf Ae ops Q (o :: rest) a w:=by
 obtain⟨i,h2,h3,h4,h5⟩:=Bf IB;refine Lib.wpList_append_own_string w Du s x 77 9 ho B 5 i Tryz.underlying77 Tryz.underlying9 h2 h3 h4 h5 v l.length _ hs hown.2 n hx (by simp only[maxLen];omega) (by omega) hB fun v' w' h6 h7 _=>?_
 refine h v' w' ⟨DL hown.1 (MO n),?_⟩ ((AC _ _).grown h7 hB fun k hk=>(hown.2.lt k hk).1);rw[AD,Cp,DD,<- Y4];exact h6
def TSl(w:E)(v:I)(O:List ByteArray):Prop:=
 ∃ ao cap,v=Ak ao O.length cap/\O.length<=cap/\(0<O.length->∃ b off,ao=U ⟨b,off,H⟩/\b<w.heap.size/\∀ j,j<O.length->w.cell? ⟨b,off+j,H⟩=U (.string (O.getD j ⟨#[]⟩)))
theorem TSl.below{w w':E}{v:I}{O:List ByteArray}(h:TSl w v O)(hb:C w.heap.size w w'):TSl w' v O:=by
 obtain⟨ao,cap,hv,hn,hc⟩:=h;refine⟨ao,cap,hv,hn,fun h0=>?_⟩;obtain⟨b,off,e,hlt,hj⟩:=hc h0;exact⟨b,off,e,AA hlt hb.size,fun j h=>(hb.cell (p:=⟨b,off+j,H⟩) hlt).trans (hj j h)⟩
theorem TF(w:E):TSl w (Ak H 0 0) []:=⟨H,0,rfl,At _,fun h=>absurd h (by decide)⟩
theorem TSl.tail{w:E}{b off cap n:Nat}{O:List ByteArray}(h:TSl w (Ak (U ⟨b,off,H⟩) n cap) O)(h0:0<O.length):TSl w (.slice (if cap=1 then U ⟨b,off,H⟩ else U ⟨b,off+1,H⟩) (n-1) (cap-1)) (O.drop 1):=by
 obtain⟨ao,cap',hv,hn,hc⟩:=h;cases hv
 obtain⟨b',off',e,hlt,hj⟩:=hc h0;cases e
 refine⟨_,_,by rw[Bn],by rw[Bn];omega,fun h1=>?_⟩;rw[Bn] at h1;rw[Ax (by omega)];refine⟨b,off+1,rfl,hlt,fun j h=>?_⟩;rw[Bn] at h;have:=hj (j+1) (by omega);rw[An,Bk,Nat.add_comm 1 j,<- An,<- this,Dt,Nat.add_comm 1 j]
def TR(w:E)(B:Nat)(v:I)(O:List ByteArray):Prop:=w.ownsRow B 9 1 v O.length (O.map I.string)
theorem Zz(w:E)(B:Nat):TR w B (Ak H 0 0) []:=Dn w B _ _
theorem TR.below{w w':E}{B:Nat}{v:I}{O:List ByteArray}(h:TR w B v O)(hb:C w.heap.size w w'):TR w' B v O:=by
 refine⟨h.1,?_⟩;rcases h.2 with h| ⟨g,cap,cur,hv,hg,hh,r⟩
 . exact AU h
 . exact AW ⟨g,cap,cur,hv,hg,by rw[hb.block g (Ah.1 hh).1];exact hh,r⟩
theorem TR.sl{w:E}{B:Nat}{v:I}{O:List ByteArray}(h:TR w B v O):TSl w v O:=by
 rcases h.2 with⟨hv,hl⟩| ⟨g,cap,cur,hv,hg,hh,Ii,Jq,Jr,ht⟩
 . have:=AO hl
   subst this hv;exact TF w
 . refine⟨_,cap,hv,Ii,fun h0=>⟨g,0,rfl,(Ah.1 hh).1,fun j hj=>?_⟩⟩
   have h1:(O.map I.string)[j]? =U (.string (O.getD j ⟨#[]⟩)):=by
    rw[DR,An,AL hj];rfl
   rw[<- ht,AZ] at h1;rw[Au (by omega)] at h1;rw[Br,Aq _ _ _ _ _ _ hh]
   simpa using h1
theorem Iz:(Ae.info? 9).map (fun i=>(i.zero,i.size,i.bytes))=U (U (.string ByteArray.empty),1,16):=by kernel_rfl
theorem IN(w1:E)(n:ByteArray){ops:Array BE}{rest:List BE}{o:BE}{a:Act}{Q:Exit->Act->E->Prop}(Du:o.guard=H)(s y:Operand)
 (ho:o.op=.call { callee:=.builtin .append,args:=#[s,y],argTypes:=#[23,23] })
 (B:Nat) (v:I) (O:List ByteArray) (hs:a.eval s=v) (hown:TR w1 B v O) (hO:O.length<=1000000) (hy:a.eval y=Ak (U ⟨w1.heap.size,0,H⟩) 1 1) (hB:B<=w1.heap.size)
 (h:∀ v' w',TR w' B v' (O ++ [n])->C B w1 w'->Cf Ae ops Q rest (a.put o.dst v') w'):Cf Ae ops Q (o :: rest) a (w1.alloc (Am #[.string n] 9)):=by
 obtain⟨t,h2,h3,h4,h5⟩:=Bf Iz;have hbel:C w1.heap.size w1 (w1.alloc (Am #[.string n] 9)):=As _ _;have QW:(w1.alloc (Am #[.string n] 9)).heap[w1.heap.size]? =U (Am #[.string n] 9 (0,0)):=Ar w1 _;have hf:=hown.below hbel;refine FU _ Du s y 23 ho B 9 t _ 1 16 Tryz.underlying23 h2 h3 h4 h5 rfl (by decide) v O.length _ hs hf ⟨w1.heap.size,0,H⟩ 1 1 [.string n] hy rfl ?_ ?_ (by simp only[maxLen];omega) (by omega) (by simp;omega) fun v' w' h6 h7 _=>?_
 . intro m u hm
   have hm2:m<1:=by simpa using (Bb.1 hm).1
   obtain rfl:m=0:=by omega
   rw[BY,Aq _ _ _ _ _ _ QW,<- hm];rfl
 . intro u hu
   simp at hu;rw[hu];rfl
 . refine h v' w' ?_ ((hbel.mono hB).trans ((AC _ _).grown h7 (by simp;omega) fun k hk=>(BO hf k hk).1))
   show w'.ownsRow B 9 1 v' (O ++ [n]).length ((O ++ [n]).map .string)
   rw[AD,Cp];exact h6
theorem Nt(w:E){ops:Array BE}{rest:List BE}{o:BE}{a:Act}{Q:Exit->Act->E->Prop}(Du:o.guard=H)(s y:Operand)
 (ho:o.op=.call { callee:=.builtin .append,args:=#[s,y],argTypes:=#[23,23] })
 (B:Nat) (v u:I) (O R:List ByteArray) (hs:a.eval s=v) (hown:TR w B v O) (hO:O.length+R.length<=1000000) (hR:0<R.length) (hy:a.eval y=u) (hu:TSl w u R) (hB:B<=w.heap.size)
 (h:∀ v' w',TR w' B v' (O ++ R)->C B w w'->Cf Ae ops Q rest (a.put o.dst v') w'):Cf Ae ops Q (o :: rest) a w:=by
 obtain⟨t,h2,h3,h4,h5⟩:=Bf Iz;obtain⟨ao,cap,rfl,_,hc⟩:=hu;obtain⟨b,off,rfl,hlt,hj⟩:=hc hR;refine FU _ Du s y 23 ho B 9 t _ 1 16 Tryz.underlying23 h2 h3 h4 h5 rfl (by decide) v O.length _ hs hown ⟨b,off,H⟩ R.length cap (R.map .string) hy (by rw[Ba,Nat.mul_one]) ?_ ?_ (by simp only[maxLen];omega) (by omega) hB fun v' w' h6 h7 _=>?_
 . intro m x hm
   have hm2:m<R.length:=by simpa using (Bb.1 hm).1
   rw[BY,hj m hm2,<- hm,DR,An,AL hm2];rfl
 . intro x hx
   obtain⟨y,_,rfl⟩:=BZ.1 hx;rfl
 . refine h v' w' ?_ ((AC _ _).grown h7 hB fun k hk=>(BO hown k hk).1)
   show w'.ownsRow B 9 1 v' (O ++ R).length ((O ++ R).map .string)
   rw[AD,Cp];exact h6
theorem Q6(W:E)(g ao:Option Addr)(n c cap:Nat)(ty:Cg)(h:n<=c):(Builtin.append_ #[23,23] ty #[Ak g n c,Ak ao 0 cap]).run Ae W=.ok (Ak g n c) W:=by
 obtain⟨t,h2,h3,h4,h5⟩:=Bf Iz;cases ao <;> cases g <;> simp[Builtin.lenOf,Builtin.firstCells,storeCells,loadCells,loadCellsFrom,Builtin.append_,B9 Tryz.underlying23,sizeOf,typeInfo,zeroValue,h2,h3,h5,h]
theorem C2(w:E){ops:Array BE}{rest:List BE}{o:BE}{a:Act}{Q:Exit->Act->E->Prop}(Du:o.guard=H)(s y:Operand)
 (ho:o.op=.call { callee:=.builtin .append,args:=#[s,y],argTypes:=#[23,23] })
 (B:Nat) (v u:I) (O R:List ByteArray) (hs:a.eval s=v) (hown:TR w B v O) (hO:O.length+R.length<=1000000) (hy:a.eval y=u) (hu:TSl w u R) (hB:B<=w.heap.size)
 (h:∀ v' w',TR w' B v' (O ++ R)->C B w w'->Cf Ae ops Q rest (a.put o.dst v') w'):Cf Ae ops Q (o :: rest) a w:=by
 by_cases h0:0<R.length
 . exact Nt w Du s y ho B v u O R hs hown hO h0 hy hu hB h
 . obtain rfl:R=[]:=AO (by omega)
   rw[BW] at h;obtain⟨ao,cap,rfl,_⟩:=hu;rw[List.length_nil] at hy;have hv:∃ g n c,v=Ak g n c/\n<=c:=by
    rcases hown.2 with⟨e,_⟩| ⟨g,c,cur,e,_,_,hn,_⟩
    . exact⟨H,0,0,e,At _⟩
    . exact⟨_,_,c,e,hn⟩
   obtain⟨g,n,c,rfl,hn⟩:=hv;have hr:=Q6 w g ao n c cap o.type hn;refine CA Du fun _ hK=>?_
   unfold BE.wp execOp;simp only[ho,resolve,invoke,builtin,Dg,Sem.run_pure,Result.andThen_ok,Fc,DO,IJ,hs,hy,hr];exact hK _ _ (h _ w hown (AC _ _))
def Us:List UInt8->List UInt8->List (List UInt8)
 |[],c=>if c=[] then [] else [c]
 |b :: r,c=>if b=47 then (if c=[] then Us r [] else c :: Us r []) else Us r (c ++ [b])
def dr(l:List UInt8):ByteArray:=⟨l.toArray⟩
theorem PB(p:ByteArray):dr p.data.toList=p:=by unfold dr;rw[Array.toArray_toList]
def BL(s:ByteArray):List ByteArray:=(Us s.data.toList []).map dr
structure OkP (s:ByteArray):Prop where
 sz:s.size<=200
 nz:∀ b∈s.data.toList,b≠0
 ln:∀ p∈BL s,p.size<=13
 ct:(BL s).length<=20
structure Spl (s:ByteArray) (k:Nat) (O:List ByteArray) (p:ByteArray):Prop where
 pt:BL s=O ++ if k<=s.size then (Us (s.data.toList.drop k) p.data.toList).map dr else []
 nz:∀ b∈s.data.toList.take k,b≠0
 ln:∀ q∈O,q.size<=13
 ct:O.length<=k
 ps:p.size<=k
section
variable {s p:ByteArray}{k:Nat}{O:List ByteArray}
theorem cV(s:ByteArray):Spl s 0 [] ⟨#[]⟩:=⟨by rw[Au (AT _)];rfl,fun b hb=>(by rw[List.take_zero] at hb;cases hb),fun q hq=>(by cases hq),At _,At _⟩
theorem GJ(s:ByteArray):s.data.toList.length=s.size:=Array.length_toList
theorem O8(hk:k<s.size):s.data.toList.drop k=s[k] :: s.data.toList.drop (k+1):=by
 rw[IK (by rw[GJ];exact hk)];rfl
theorem jD(hk:k<s.size):s.data.toList.take (k+1)=s.data.toList.take k ++ [s[k]]:=by
 rw[Bz (by rw[GJ];exact hk)];rfl
theorem pQ(p:ByteArray)(hk:k<s.size):(p ++ s.extract k (k+1)).data.toList=p.data.toList ++ [s[k]]:=by
 rw[ByteArray.data_append,Array.toList_append,Lib.extract_data,O8 hk,Nat.add_sub_cancel_left];rfl
theorem Spl.byte(h:Spl s k O p)(hk:k<s.size)(h1:s[k]≠47)(h0:s[k]≠0):Spl s (k+1) O (p ++ s.extract k (k+1)):=by
 refine⟨?_,?_,h.ln,Nat.le_succ_of_le h.ct,?_⟩
 . rw[h.pt,Au (by omega),Au (by omega),O8 hk,pQ p hk,Us,Ax h1]
 . rw[jD hk]
   intro b hb;rcases BI.1 hb with hb|hb
   . exact h.nz b hb
   . rw[BA.1 hb];exact h0
 . have:=Bt List.length (pQ p hk)
   rw[AD,GJ,GJ] at this;have:=h.ps;simp at*
   omega
theorem Spl.zero(hk:k<s.size)(h0:s[k]=0):¬ OkP s:=fun h=>h.nz 0 (by rw[<- h0];exact List.mem_of_getElem? (i:=k) (by rw[AL (by rw[GJ];exact hk)];rfl)) rfl
theorem p_nil:p.data.toList=[] ↔ p.size=0:=by rw[<- GJ,List.length_eq_zero_iff]
theorem aO{r:List UInt8}(hc:p.data.toList≠[])(he:∀ b l,r=b :: l->b=47):Us r p.data.toList=p.data.toList :: (Us (r.drop 1) []):=by
 cases r with
 |nil=>rw[Us,Ax hc];rfl
 |cons b l=>rw[Us,Au (he b l rfl),Ax hc];rfl
theorem kg{r:List UInt8}(he:∀ b l,r=b :: l->b=47):Us r []=Us (r.drop 1) []:=by
 cases r with
 |nil=>rfl
 |cons b l=>rw[Us,Au (he b l rfl),Au rfl];rfl
theorem Spl.end_(hk:k<=s.size)(hs:∀ (h:k<s.size),s[k]=47):∀ b l,s.data.toList.drop k=b :: l->b=47:=by
 intro b l e;by_cases h:k<s.size
 . rw[O8 h] at e
   injection e with e _
   rw[<- e];exact hs h
 . rw[GR (by rw[GJ];omega)] at e;cases e
theorem Spl.long(h:Spl s k O p)(hk:k<=s.size)(hs:∀ (h:k<s.size),s[k]=47)(hp:13<p.size):¬ OkP s:=fun ho=>by
 have h1:=h.pt;rw[Au hk,aO (fun e=>by rw[p_nil] at e;omega) (Spl.end_ hk hs)] at h1;have:=ho.ln p (by rw[h1,DO,PB];exact Cs _ Cj);omega
theorem Spl.nz1(h:Spl s k O p)(hs:∀ (h:k<s.size),s[k]=47):∀ b∈s.data.toList.take (k+1),b≠0:=by
 intro b hb;by_cases hk:k<s.size
 . rw[jD hk] at hb
   rcases BI.1 hb with hb|hb
   . exact h.nz b hb
   . rw[BA.1 hb,hs hk];decide
 . rw[AR (by rw[GJ];omega)] at hb
   exact h.nz b (by rw[AR (by rw[GJ];omega)];exact hb)
theorem UD(k:Nat):(Us ((s.data.toList.drop k).drop 1) []).map dr=if k+1<=s.size then (Us (s.data.toList.drop (k+1)) (⟨#[]⟩:ByteArray).data.toList).map dr else []:=by
 rw[List.drop_drop];split
 . rfl
 . rw[GR (by rw[GJ];omega)];rfl
theorem Spl.part(h:Spl s k O p)(hk:k<=s.size)(hs:∀ (h:k<s.size),s[k]=47)(hp:p.size<=13)(h0:p.size≠0):Spl s (k+1) (O ++ [p]) ⟨#[]⟩:=by
 refine⟨?_,h.nz1 hs,fun q hq=>?_,by rw[AD,List.length_singleton];have:=h.ct;omega,AT _⟩
 . rw[h.pt,Au hk,aO (fun e=>h0 (p_nil.1 e)) (Spl.end_ hk hs),DO,PB,UD,A7]
   rfl
 . rcases BI.1 hq with hq|hq
   . exact h.ln q hq
   . rw[BA.1 hq];exact hp
theorem Spl.none(h:Spl s k O p)(hk:k<=s.size)(hs:∀ (h:k<s.size),s[k]=47)(h0:p.size=0):Spl s (k+1) O ⟨#[]⟩:=by
 refine⟨?_,h.nz1 hs,h.ln,Nat.le_succ_of_le h.ct,AT _⟩;rw[h.pt,Au hk,p_nil.2 h0,kg (Spl.end_ hk hs),UD]
theorem Spl.fin(h:Spl s (s.size+1) O p)(hs:s.size<=200):BL s=O/\(OkP s ↔ O.length<=20):=by
 have e:=h.pt;rw[Ax (by omega),BW] at e;refine⟨e,fun h1=>by rw[<- e];exact h1.ct,fun h2=>⟨hs,fun b hb=>h.nz b (by rw[AR (by rw[GJ];omega)];exact hb),by rw[e];exact h.ln,by rw[e];exact h2⟩⟩
end
theorem b47{b:UInt8}:((b.toNat:Int)==47)=AE ↔ b=47:=by
 rw[Da];exact⟨fun h=>UInt8.toNat_inj.1 (by show b.toNat=47;omega),fun h=>by rw[h];rfl⟩
theorem b0{b:UInt8}:((b.toNat:Int)==0)=AE ↔ b=0:=by
 rw[Da];exact⟨fun h=>UInt8.toNat_inj.1 (by show b.toNat=0;omega),fun h=>by rw[h];rfl⟩
theorem o5(W:E)(s:ByteArray)(k:Nat)(y:Int)(hy:y=(k:Int)+1)(hk:k<s.size):(Instr.slice 9 (.string s) (U (J Y (k:Int))) (U (J Y y)) H).run Ae W=.ok (.string (s.extract k (k+1))) W:=by
 subst hy;rw[run_slice_string_if W 9 _ _ _ _ _ Tryz.underlying9,Au ⟨by omega,by omega⟩,Au ⟨by omega,by omega⟩];rfl
def Zw(s:ByteArray)(w:E)(e:Ending)(w':E):Prop:=
 ((OkP s/\∃ v,e=Aj (AH #[v,J Y 0])/\TR w' w.heap.size v (BL s))\/(¬ OkP s/\e=Aj (AH #[Ak H 0 0,J Y 10])))/\C w.heap.size w w'
theorem LG(s:ByteArray)(w:E):Av Ae 18 #[.string s] w (Zw s w):=by
 unfold Zw;by_cases h2:s.size<=200
 . have g2:¬ (200:Int)<(s.size:Int):=by omega
   have H2:=wM h2;have HBY:=wM (fun k O (p:ByteArray) (h:Spl s k O p) (hk:k<s.size) (h1:((s[k].toNat:Int)==47)=Ay) (h0:((s[k].toNat:Int)==0)=Ay)=>h.byte hk (fun e=>by rw[b47.2 e] at h1;cases h1) (fun e=>by rw[b0.2 e] at h0;cases h0));have HZ:=wM (fun k (hk:k<s.size) (h0:((s[k].toNat:Int)==0)=AE)=>Spl.zero hk (b0.1 h0));have HLO:=wM (fun k O (p:ByteArray) (h:Spl s k O p) (hk:k<=s.size) (hs:∀ (h:k<s.size),s[k]=47) (hp:13<p.size)=>h.long hk hs hp);have HPA:=wM (fun k O (p:ByteArray) (h:Spl s k O p) (hk:k<=s.size) (hs:∀ (h:k<s.size),s[k]=47) (hp:p.size<=13) (h0:p.size≠0)=>h.part hk hs hp h0);have HNO:=wM (fun k O (p:ByteArray) (h:Spl s k O p) (hk:k<=s.size) (hs:∀ (h:k<s.size),s[k]=47) (h0:p.size=0)=>h.none hk hs h0);have HFI:=wM (fun O (p:ByteArray) (h:Spl s (s.size+1) O p)=>h.fin h2);have H0:=wM (cV s);go_enter Tryz.func18,Tryz.ntmps18;go_wp2;go_loopw [4,5,13] (fun v p i wr=>∃ (k:Nat) (O:List ByteArray) (q:ByteArray),k<=s.size+1/\i=J Y k/\p=.string q/\Hid (TR wr w.heap.size v O/\Spl s k O q/\C w.heap.size w wr)) (fun _ _ i _=>s.size+1-(intOf i).toNat)
   case atStart=>exact⟨0,[],⟨#[]⟩,by omega,rfl,rfl,wM ⟨Zz _ _,H0.out,AC _ _⟩⟩
   case round=>
    obtain⟨k,O,q,hk,rfl,rfl,HI⟩:=hrel;clear H0;have hqs:=HI.out.2.1.ps;have hOk:=HI.out.2.1.ct;by_cases sI:k<=s.size
    . have e1:(k:Int)<(s.size:Int)+1:=by omega
      by_cases hby:∃ h:k<s.size,((s[k].toNat:Int)==47)=Ay
      . obtain⟨hlt,h1⟩:=hby
        have e2:(k:Int)<(s.size:Int):=(by omega);cases h0:(((s[k]).toNat:Int)==0)
        . have HN:=wM (HBY.out k O q HI.out.2.1 hlt h1 h0)
          have hsl:=fun W=>o5 W s k ((k:Int)+1) rfl hlt
          obtain⟨t,ht⟩:=nm (s.extract k (k+1));have hts:(t.size:Int)<=1:=(by rw[ht,ByteArray.size_extract];omega);have mr:(q.size:Int)<=201:=(by omega);rw[<- ht] at hsl HN;clear ht;go_wp2;go_roundw
          case rel=>exact⟨k+1,O,_,by omega,by go_num,rfl,wM ⟨HI.out.1,HN.out,HI.out.2.2⟩⟩
          case measure=>simp[intOf];omega
        . have HN:=wM (HZ.out k hlt h0)
          go_wp2;go_ret2;exact⟨AW ⟨HN.out,rfl⟩,HI.out.2.2⟩
      . have HS:Hid (∀ h:k<s.size,s[k]=47):=wM fun h=>b47.1 (by
         cases c:((s[k].toNat:Int)==47)
         . exact absurd ⟨h,c⟩ hby
         . rfl)
        have Lx:(∃ h:k<s.size,((s[k].toNat:Int)==47)=AE)\/k=s.size:=by
         by_cases h:k<s.size
         . exact AU ⟨h,b47.2 (HS.out h)⟩
         . exact AW (by omega)
        clear hby;by_cases WS:13<q.size
        . have g13:(13:Int)<(q.size:Int):=by omega
          have HN:=wM (HLO.out k O q HI.out.2.1 sI HS.out WS);rcases Lx with⟨hlt,h1⟩|he
          . have e2:(k:Int)<(s.size:Int):=by omega
            go_wp2;go_ret2;exact⟨AW ⟨HN.out,rfl⟩,HI.out.2.2⟩
          . have e2:¬ (k:Int)<(s.size:Int):=by omega
            go_wp2;go_ret2;exact⟨AW ⟨HN.out,rfl⟩,HI.out.2.2⟩
        . have g13:¬ (13:Int)<(q.size:Int):=by omega
          by_cases Xf:q.size=0
          . have HN:=wM (HNO.out k O q HI.out.2.1 sI HS.out Xf)
            have uF:q.toList.isEmpty=AE:=(by rw[B0,p_nil.2 Xf];rfl);rcases Lx with⟨hlt,h1⟩|he
            . have e2:(k:Int)<(s.size:Int):=by omega
              go_wp2;go_roundw
              case rel=>exact⟨k+1,O,_,by omega,by go_num,rfl,wM ⟨HI.out.1,HN.out,HI.out.2.2⟩⟩
              case measure=>simp[intOf];omega
            . have e2:¬ (k:Int)<(s.size:Int):=by omega
              go_wp2;go_roundw
              case rel=>exact⟨k+1,O,_,by omega,by go_num,rfl,wM ⟨HI.out.1,HN.out,HI.out.2.2⟩⟩
              case measure=>simp[intOf];omega
          . have HN:=wM (HPA.out k O q HI.out.2.1 sI HS.out (by omega) Xf)
            have uF:q.toList.isEmpty=Ay:=by
             rw[B0];cases c:q.data.toList with
             |nil=>exact absurd (p_nil.1 c) Xf
             |cons _ _=>rfl
            have HOL:Hid (O.length<=1000000/\w.heap.size<=wr.heap.size):=wM ⟨by omega,HI.out.2.2.size⟩;rcases Lx with⟨hlt,h1⟩|he
            . have e2:(k:Int)<(s.size:Int):=by omega
              go_wp2_with (at_builtin;refine IN wr q rfl (.tmp 42) (.tmp 44) rfl w.heap.size _ O rfl HI.out.1 HOL.out.1 rfl HOL.out.2 ?_;intro v5 w5 h5 hb5)
              go_roundw
              case rel=>exact⟨k+1,O ++ [q],_,by omega,by go_num,rfl,wM ⟨h5,HN.out,HI.out.2.2.trans hb5⟩⟩
              case measure=>simp[intOf];omega
            . have e2:¬ (k:Int)<(s.size:Int):=by omega
              go_wp2_with (at_builtin;refine IN wr q rfl (.tmp 42) (.tmp 44) rfl w.heap.size _ O rfl HI.out.1 HOL.out.1 rfl HOL.out.2 ?_;intro v5 w5 h5 hb5)
              go_roundw
              case rel=>exact⟨k+1,O ++ [q],_,by omega,by go_num,rfl,wM ⟨h5,HN.out,HI.out.2.2.trans hb5⟩⟩
              case measure=>simp[intOf];omega
    . obtain rfl:k=s.size+1:=by omega
      have e1:¬ ((s.size+1:Nat):Int)<(s.size:Int)+1:=(by omega);obtain⟨f1,f2⟩:=HFI.out O q HI.out.2.1;obtain⟨ao,cap,hv,_⟩:=HI.out.1.sl;subst hv;by_cases h20:O.length<=20
      . have g20:¬ (20:Int)<(O.length:Int):=by omega
        have HF:Hid (OkP s/\BL s=O):=wM ⟨f2.2 h20,f1⟩;clear f1 f2;go_wp2;go_ret2;exact⟨AU ⟨HF.out.1,_,rfl,by rw[HF.out.2];exact HI.out.1⟩,HI.out.2.2⟩
      . have g20:(20:Int)<(O.length:Int):=by omega
        have HF:Hid (¬ OkP s):=wM fun h=>h20 (f2.1 h)
        clear f1 f2;go_wp2;go_ret2;exact⟨AW ⟨HF.out,rfl⟩,HI.out.2.2⟩
 . have g2:(200:Int)<(s.size:Int):=by omega
   have HN:Hid (¬ OkP s):=wM fun h=>h2 h.sz
   clear h2;go_enter Tryz.func18,Tryz.ntmps18;go_wp2;go_ret2;exact⟨AW ⟨HN.out,rfl⟩,AC _ _⟩
end
section
open Go.RowKit BM
def Fm(l:List (Int × ByteArray)):List Int:=l.flatMap Ei
def FrmL(l:List (Int × ByteArray)):Prop:=∀ e∈l,Fl e=AE
theorem FrmL.len{l:List (Int × ByteArray)}(h:FrmL l):∀ e∈l,(Ei e).length=16:=fun e he=>D4 (DK (h e he)).2
theorem E6{l:List (Int × ByteArray)}(h:FrmL l):(Fm l).length=16*l.length:=by
 unfold Fm;rw[I3 h.len];omega
theorem Ip(l m:List (Int × ByteArray)):Fm (l ++ m)=Fm l ++ Fm m:=DW
theorem Vy{l:List (Int × ByteArray)}(h:FrmL l){i:Nat}(hi:i<l.length):((Fm l).drop (16*i)).take 16=Ei l[i]:=by
 have:=XU [] h.len i hi;rw[BW,Nat.mul_comm i 16] at this;exact this
theorem fH(l:List (Int × ByteArray))(h:FrmL l)(i:Nat)(hi:i<=l.length):(Fm l).take (16*i)=Fm (l.take i):=by
 have e:l=l.take i ++ l.drop i:=(Fw i l).symm;have hl:(Fm (l.take i)).length=16*i:=by
  rw[E6 fun e he=>h e (DB he),AJ];omega
 conv=>lhs;rw[e,Ip]
 rw[Dz hl]
theorem FrmL.take{l:List (Int × ByteArray)}(h:FrmL l)(k:Nat):FrmL (l.take k):=fun x hx=>h x (DB hx)
theorem bQ(l:List (Int × ByteArray))(h:FrmL l)(i:Nat)(hi:i<=l.length):(Fm l).drop (16*i)=Fm (l.drop i):=by
 have e:l=l.take i ++ l.drop i:=(Fw i l).symm;have hl:(Fm (l.take i)).length=16*i:=by
  rw[E6 fun e he=>h e (DB he),AJ];omega
 conv=>lhs;rw[e,Ip]
 rw[List.drop_left' hl]
section
variable {M:Nat->Option (List Int)}
theorem nA{l:List Int}{a n:Nat}(hl:l.length=n)(h:∀ i,i<n->fp M (a+i)=l.getD i 0):JI M a n=l:=by
 apply Bg
 . rw[FI,hl]
 . intro i h1 h2
   rw[FI] at h1;have e1:=OS M a h1;rw[An,AL (by rw[FI];exact h1)] at e1;have e2:=h i h1;rw[An,AL h2] at e2;exact e1.trans e2
theorem aN(hk:OkB M){l:List Int}(hb:Fv l){a n:Nat}(ha:a<=n):JI (wrL M a l) 0 (max n (a+l.length))=splice (JI M 0 n) a l:=by
 have hlen:=FI M 0 n;refine nA (by unfold splice;rw[AD,AD,AJ,Bn,hlen];omega) fun i hi=>?_
 rw[Br,Z9 l M a hk hb];unfold splice;by_cases c1:i<a
 . rw[Ax (by omega),An,BH (by rw[AJ,hlen];omega),AZ,Au c1,<- An,OS M 0 (by omega),Br]
 . have ht:((JI M 0 n).take a).length=a:=by rw[AJ,hlen];omega
   by_cases c2:i<a+l.length
   . rw[Au ⟨by omega,c2⟩,An,An,BR (by omega),ht,BH (by omega)]
   . rw[Ax (by omega),An,BR (by omega),ht,BR (by omega),Bk,<- An,show a+l.length+(i-a-l.length)=i by omega,OS M 0 (by omega),Br]
end
structure DirF (sz:Nat) (M:Nat->Option (List Int)) (l:List (Int × ByteArray)):Prop where
 ok:OkB M
 frm:FrmL l
 zs:sz=16*l.length
 by_:JI M 0 sz=Fm l
section
variable {sz:Nat}{M:Nat->Option (List Int)}{l:List (Int × ByteArray)}
theorem DirF.nil{M:Nat->Option (List Int)}(h:OkB M):DirF 0 M []:=⟨h,fun x hx=>(by cases hx),rfl,rfl⟩
end
end
section
open Go.RowKit
theorem Wz(s:ByteArray)(c:Int)(w:E):Av Ae 82 #[.string s,J .u8 c] w fun e w'=>e=Aj (J Y (Lib.indexByte s.data.toList c.toNat.toUInt8))/\w=w':=by
 go_enter Tryz.func82,Tryz.ntmps82;go_wp2;rw[run_callFunc_extern Tryz.func128 (by kernel_rfl) (by kernel_rfl) (by kernel_rfl) (e:=Extern.BytealgIndexByte.indexByte) (by kernel_rfl),Lib.run_indexByteString];simp only[Result.andThen];rw[BE.upon_value];go_wp2;go_ret;exact⟨rfl,rfl⟩
theorem Uc(s:ByteArray)(c:Int)(w:E):Av Ae 41 #[.string s,J .u8 c] w fun e w'=>e=Aj (J Y (Lib.indexByte s.data.toList c.toNat.toUInt8))/\w=w':=by
 go_enter Tryz.func41,Tryz.ntmps41;go_wp2_with (go_at_call 82;refine(Wz s c _).mono ?_;rintro e w' ⟨rfl,rfl⟩)
 go_ret;exact⟨rfl,rfl⟩
theorem dots_is:dot1.toList=[46]/\dot2.toList=[46,46]:=by
 rw[B0,B0];exact⟨rfl,rfl⟩
theorem lA(s:ByteArray)(B:Bool)(h:Hx s=B)(w:E):Av Ae 98 #[.string s] w fun e w'=>e=Aj (AP B)/\w=w':=by
 have K0:=wM (fun W=>Uc s 0 W);have K1:=wM (fun W=>Uc s 47 W);unfold Hx at h;rw[eh,dots_is.1,dots_is.2] at h;by_cases h1:1<=s.size
 . by_cases h2:s.size<=13
   . rw[Az h1,Az h2] at h
     have g1:¬ (s.size:Int)<1:=(by omega);have g2:¬ 13<(s.size:Int):=(by omega);cases d1:s.toList==[46]
     . cases d2:s.toList==[46,46]
       . rw[d1,d2] at h
         obtain⟨I0,ml⟩:=nm (Lib.indexByte s.data.toList 0);obtain⟨I1,hI1⟩:=nm (Lib.indexByte s.data.toList 47);rw[<- ml,<- hI1] at h;have K0':Hid (∀ W,Av Ae 41 #[.string s,J .u8 0] W fun e w'=>e=Aj (J Y I0)/\W=w'):=wM (fun W=>by rw[ml];exact K0.out W);have K1':Hid (∀ W,Av Ae 41 #[.string s,J .u8 47] W fun e w'=>e=Aj (J Y I1)/\W=w'):=wM (fun W=>by rw[hI1];exact K1.out W);clear K0 K1 ml hI1;by_cases n0:I0<0
         . cases n1:decide (I1<0)
           all_goals
            rw[Az n0,n1] at h;have HB:=wM h;clear h;go_enter Tryz.func98,Tryz.ntmps98;go_wp2_with (go_at_call 41;first|((with_reducible refine(K0'.out _).mono ?_);rintro e w' ⟨rfl,rfl⟩)|((with_reducible refine(K1'.out _).mono ?_);rintro e w' ⟨rfl,rfl⟩))
            go_ret;exact⟨Df HB.out,rfl⟩
         . rw[AB n0] at h
           have HB:=wM h;clear h;go_enter Tryz.func98,Tryz.ntmps98;go_wp2_with (go_at_call 41;(with_reducible refine(K0'.out _).mono ?_);rintro e w' ⟨rfl,rfl⟩)
           go_ret;exact⟨Df HB.out,rfl⟩
       . rw[d1,d2] at h
         have HB:=wM h;clear h;go_enter Tryz.func98,Tryz.ntmps98;go_wp2;go_ret;exact⟨Df HB.out,rfl⟩
     . rw[d1] at h
       have HB:=wM h;clear h;go_enter Tryz.func98,Tryz.ntmps98;go_wp2;go_ret;exact⟨Df HB.out,rfl⟩
   . rw[Az h1,AB h2] at h
     have HB:=wM h;clear h;have g1:¬ (s.size:Int)<1:=(by omega);have g2:13<(s.size:Int):=(by omega);go_enter Tryz.func98,Tryz.ntmps98;go_wp2;go_ret;exact⟨Df HB.out,rfl⟩
 . rw[AB h1] at h
   have HB:=wM h;clear h;have g1:(s.size:Int)<1:=(by omega);go_enter Tryz.func98,Tryz.ntmps98;go_wp2;go_ret;exact⟨Df HB.out,rfl⟩
theorem L3(i:Int)(s:ByteArray)(B:Bool)(h:Fl (i,s)=B)(w:E):Av Ae 52 #[BN #[J Y i,.string s]] w fun e w'=>e=Aj (AP B)/\C w.heap.size w w':=by
 have hob:=As w (Am #[J Y i,.string s] 75);unfold Fl at h;by_cases h1:1<=i
 . by_cases h2:i<48
   . have hn:Hx s=B:=by
      rw[<- h];show _=(decide (1<=i) && (decide (i<48) && Hx s));rw[Az h1,Az h2];rfl
     have K:=wM (fun W=>lA s B hn W);clear h hn;go_enter Tryz.func52,Tryz.ntmps52;go_wp2_with (go_at_call 98;refine(K.out _).mono ?_;rintro e w' ⟨rfl,rfl⟩)
     go_ret;exact⟨rfl,hob⟩
   . have HB:Hid (Ay=B):=wM (by rw[<- h];show _=(decide (1<=i) && (decide (i<48) && Hx s));rw[Az h1,AB h2];rfl)
     clear h;go_enter Tryz.func52,Tryz.ntmps52;go_wp2;go_ret;exact⟨Df HB.out,hob⟩
 . have HB:Hid (Ay=B):=wM (by rw[<- h];show _=(decide (1<=i) && (decide (i<48) && Hx s));rw[AB h1];rfl)
   clear h;go_enter Tryz.func52,Tryz.ntmps52;go_wp2;go_ret;exact⟨Df HB.out,hob⟩
end
end Go.Proofs.YtfpdajplfmakhaaGreatDoor
