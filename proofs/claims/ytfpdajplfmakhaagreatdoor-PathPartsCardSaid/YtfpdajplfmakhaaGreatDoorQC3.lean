/- What the law rests on. -/
import Derived.Deep.Cut
import Derived.Lib.SliceRun
import Derived.Test.YtfpdajplfmakhaaGreatDoorQC2
open Go.Value renaming int->O,slice->Y,pointer->Al,tuple->AH,bool->AP,agg->BN
open Go.IntKind renaming i64->Ad
open Go.Proofs.Tryz renaming prog->Ae
open Option renaming none->J,some->I
open Go renaming World->t,Value->Ao,Calls->Av,Oper->BE,wpList->Cf,TypeId->Cg
open Go.Ending renaming returned->Aj
open Go.Obj renaming cells->Am
open Go.RowKit renaming Below->Ap
open List renaming replicate->Aw,range->Bu
open Bool renaming false->Ay,true->AE
open Array renaming replicate->AK
open Or renaming inl->AU,inr->AW
open Int renaming toNat_natCast->Cd
namespace Go.Proofs.YtfpdajplfmakhaaGreatDoor
set_option maxHeartbeats 12000000
set_option linter.unusedVariables false
set_option maxRecDepth 100000
theorem Bq:type_of% @Go.IntWalk.i64_in:=@Go.IntWalk.i64_in
theorem Cc:type_of% @List.getElem_range:=@List.getElem_range
theorem Ck:type_of% @List.map_congr_left:=@List.map_congr_left
theorem Co:type_of% @List.getElem_map:=@List.getElem_map
theorem Ef:type_of% @List.getElem_set:=@List.getElem_set
theorem E4:type_of% @Go.Lib.run_convert_bytes_const:=@Go.Lib.run_convert_bytes_const
open Go.RowKit
def ISc(w:t)(v:Ao)(l:List Int):Prop:=ISl w v l/\∃ ao cap,v=Y ao l.length cap/\l.length<=cap
theorem ISc.below{w w':t}{v:Ao}{l:List Int}(h:ISc w v l)(hb:Ap w.heap.size w w'):ISc w' v l:=⟨h.1.below hb,h.2⟩
theorem IR.isc{w:t}{B:Nat}{v:Ao}{l:List Int}(h:IR w B v l):ISc w v l:=by
 refine⟨h.sl,?_⟩;rcases h.2 with⟨hv,hl⟩| ⟨g,cap,cur,hv,hg,hh,Ii,_⟩
 . exact⟨J,0,by rw[hv,hl],by omega⟩
 . exact⟨_,cap,hv,Ii⟩
theorem ISl.take{w:t}{a:Addr}{cap:Nat}{l:List Int}(h:ISl w (Y (I a) l.length cap) l)(n:Nat)(hn:n<=l.length):ISl w (Y (I a) n cap) (l.take n):=by
 rcases h with⟨hv,_⟩| ⟨a',c',hv,hc⟩
 . simp at hv
 . obtain⟨rfl,rfl⟩:a=a'/\cap=c':=⟨A0 (AY hv).1,(AY hv).2.2⟩
   have hl:(l.take n).length=n:=(by rw[AJ];omega);refine AW ⟨a,cap,by rw[hl],fun j hj=>?_⟩;rw[hl] at hj;obtain⟨h1,h2,h3⟩:=hc j (by omega);refine⟨h1,h2,?_⟩;rw[h3];simp[hj]
theorem SC{w:t}{v:Ao}{l:List Int}(hs:ISc w v l):Av Ae 208 #[v] w fun e w'=>e=Aj (AP (ED l))/\w=w':=by
 obtain⟨h1,ao,cap,rfl,Cx⟩:=hs;obtain⟨ao',cap',hv,hc⟩:=h1.open';obtain⟨rfl,rfl⟩:ao=ao'/\cap=cap':=⟨(AY hv).1,(AY hv).2.2⟩;by_cases JJ:l.length<=37
 . have CU:=fun k hk h=>kj (N:=l) k hk h
   have hyes:=dm JJ;obtain⟨R,hR⟩:=nm (ED l);have gQ:=fun(a:Addr) (h:ao=I a) n hn=>ISl.take (w:=w) (a:=a) (cap:=cap) (l:=l) (by rw[<- h];exact h1) n hn
   have hnt:=fun i=>kU l i
   have HTL:=wM (fun n:Nat=>(AJ (i:=n) (l:=l)));rw[<- hR] at CU hyes |-
   obtain⟨N,hN⟩:=nm l.length;rw[<- hN] at hc CU hyes JJ Cx gQ HTL |-
   have HC:=wM hc;have HNO:=wM CU;have HYE:=wM hyes;have HTK:=wM gQ;have HNT:=wM hnt;have Lo:¬ 37<(N:Int):=(by omega);clear hc CU hyes hR h1 hN hv gQ hnt;go_enter Tryz.func208,Tryz.ntmps208;go_wp2
   go_loop [10] (fun i=>∃ k:Nat,k<=N/\i=O Ad k/\Hid (∀ j,j<k->l_ l j=AE)) (fun i=>N-(intOf i).toNat)
   case atStart=>exact⟨0,by omega,rfl,fun j hj=>absurd hj (A9 _)⟩
   case round=>
    obtain⟨k,hk,rfl,HK⟩:=hrel;by_cases hlt:k<N
    . obtain⟨b,off,rfl,_,hcc⟩:=HC.out (by omega)
      have hck:=hcc k hlt;have FV:=HNO.out k hlt;have hok:l_ l k=(S0 (l.getD k 0) && !(QN (l.take k) (l.getD k 0))):=(by unfold l_;rw[HNT.out]);have gQ:=HTK.out _ rfl k (by omega);have lE:(l.take k).length<=1000000:=(by rw[HTL.out];omega);obtain⟨x,hx⟩:=nm (l.getD k 0);rw[<- hx] at hck hok;have KH:=wM (fun B hB=>bX gQ lE x B hB);have HOK:=wM hok;have HN1:=wM FV;have ek:(k:Int)<(N:Int):=(by omega);have ek2:(k:Int)<=(cap:Int):=(by omega);have ek3:k<=cap:=(by omega);clear hx hcc FV hok gQ lE;by_cases hlo:x<0
      . have hR:=HN1.out (by rw[HOK.out];unfold S0;rw[AB (by omega)];rfl)
        subst hR;go_wp2;go_ret;exact⟨rfl,rfl⟩
      . by_cases hhi:767<x
        . have hR:=HN1.out (by rw[HOK.out];unfold S0;rw[AB (by omega)];rfl)
          subst hR;go_wp2;go_ret;exact⟨rfl,rfl⟩
        . have hin:S0 x=AE:=Az (by omega)
          rw[hin,AG] at HOK;obtain⟨B,hB⟩:∃ B,QN (l.take k) x=B:=⟨_,rfl⟩;have KB:=wM (KH.out B hB);rw[hB] at HOK;have h01:¬ x > 767:=(by omega);clear hB hin KH;cases B
          . go_wp2_with (go_at_call 222;(with_reducible refine KB.out.mono ?_);rintro e w2 ⟨rfl,rfl⟩)
            go_round
            case rel=>
             refine⟨k+1,by omega,by go_num,fun j hj=>?_⟩;by_cases e:j=k
             . subst e;exact HOK.out
             . exact HK.out j (by omega)
            case measure=>simp[intOf];omega
          . have hR:=HN1.out HOK.out
            subst hR;go_wp2_with (go_at_call 222;(with_reducible refine KB.out.mono ?_);rintro e w2 ⟨rfl,rfl⟩)
            go_ret;exact⟨rfl,rfl⟩
    . obtain rfl:k=N:=by omega
      have hR:=HYE.out HK.out;subst hR;go_wp2;go_ret;exact⟨rfl,rfl⟩
 . rw[QU (by omega)]
   obtain⟨N,hN⟩:=nm l.length;rw[<- hN] at JJ |-
   have Lo:37<(N:Int):=(by omega);clear hc h1 hv hN;go_enter Tryz.func208,Tryz.ntmps208;go_wp2;go_ret;exact⟨rfl,rfl⟩
theorem Ng{w:t}{v:Ao}{L:List (List Int)}(hs:BBSl w v L)(hL:L.length<=1000000):Av Ae 189 #[v] w fun e w'=>e=Aj (AP (H3 L))/\w=w':=by
 obtain⟨ao,cap,rfl,_,hc⟩:=hs.open';have CU:=fun k hk h=>iH (D:=L) k hk h
 have hyes:=(ND L).2;obtain⟨R,hR⟩:=nm (H3 L);rw[<- hR] at CU hyes |-
 obtain⟨N,hN⟩:=nm L.length;rw[<- hN] at hc CU hyes hL |-
 have HC:=wM hc;have HNO:=wM CU;have HYE:=wM hyes;clear hc CU hyes hR hs hN;go_enter Tryz.func189,Tryz.ntmps189;go_wp2
 go_loop [7] (fun i=>∃ k:Nat,k<=N/\i=O Ad k/\Hid (∀ j,j<k->(L.getD j []).length=256)) (fun i=>N-(intOf i).toNat)
 case atStart=>exact⟨0,by omega,rfl,fun j hj=>absurd hj (A9 _)⟩
 case round=>
  obtain⟨k,hk,rfl,HK⟩:=hrel;by_cases hlt:k<N
  . obtain⟨b,off,rfl,_,hcc⟩:=HC.out (by omega)
    obtain⟨u,hck,hu⟩:=hcc k hlt;have FV:=HNO.out k hlt;obtain⟨uo,uc,rfl,_⟩:=hu.shape;obtain⟨x,hx⟩:=nm ((L.getD k []).length);rw[<- hx] at hck FV;have HX:=wM hx;have HN1:=wM FV;have ek:(k:Int)<(N:Int):=(by omega);clear hx hcc FV hu;by_cases hf:x=256
    . subst hf
      go_wp2
      go_round
      case rel=>
       refine⟨k+1,by omega,by go_num,fun j hj=>?_⟩;by_cases e:j=k
       . subst e;exact HX.out.symm
       . exact HK.out j (by omega)
      case measure=>simp[intOf];omega
    . have hR:=HN1.out hf
      subst hR;have hfi:¬ (x:Int)=256:=(by omega);have hne:((x:Int) != 256)=AE:=(by simp;omega);go_wp2;go_ret;exact⟨rfl,rfl⟩
  . obtain rfl:k=N:=by omega
    have hR:=HYE.out HK.out;subst hR;go_wp2;go_ret;exact⟨rfl,rfl⟩
def TxV(w:t)(v:Ao)(q:Int)(N:List Int)(D:List (List Int)):Prop:=
 ∃ no nc ao dc,v=BN #[O .u32 q,Y no N.length nc,Y ao D.length dc]/\ISc w (Y no N.length nc) N/\BBSl w (Y ao D.length dc) D
theorem TxV.below{w w':t}{v:Ao}{q:Int}{N:List Int}{D:List (List Int)}(h:TxV w v q N D)(hb:Ap w.heap.size w w'):TxV w' v q N D:=by
 obtain⟨no,nc,ao,dc,h1,h2,h3⟩:=h;exact⟨no,nc,ao,dc,h1,h2.below hb,h3.below hb⟩
theorem UR{w:t}{v:Ao}{q:Int}{N:List Int}{D:List (List Int)}(h:TxV w v q N D)(B:Bool)(hB:Gf N D=B):Av Ae 191 #[v] w fun e w'=>e=Aj (AP B)/\Ap w.heap.size w w':=by
 obtain⟨no,nc,ao,dc,rfl,hN,hD⟩:=h;obtain⟨n,hn⟩:=nm N.length;obtain⟨m,hm⟩:=nm D.length;rw[Jf,<- hn,<- hm] at hB;have KN:=wM (fun W (hb:Ap w.heap.size w W)=>SC (hN.below hb));have KD:=wM (fun W (hb:Ap w.heap.size w W) (hl:D.length<=1000000)=>Ng (hD.below hb) hl);have HL:=wM (fun(h:ED N=AE)=>(GN h).1);rw[<- hn] at KN HL |-
 rw[<- hm] at KD |-
 have hbx:=As w (Am #[O .u32 q,Y no n nc,Y ao m dc] 215);have EN:=Ar w (Am #[O .u32 q,Y no n nc,Y ao m dc] 215);clear hN hD hn hm;go_enter Tryz.func191,Tryz.ntmps191;go_upto_region 1 with(fail)
 generalize w.alloc (Am #[O .u32 q,Y no n nc,Y ao m dc] 215)=u at hbx EN |-
 have KN1:=wM (KN.out _ hbx);have KD1:=wM (KD.out _ hbx);have HBX:=wM hbx;clear KN KD hbx;have d1:u.cell? ⟨w.heap.size,1,J⟩=I (Y no n nc):=by rw[Aq _ _ _ _ _ _ EN];rfl
 have d2:u.cell? ⟨w.heap.size,2,J⟩=I (Y ao m dc):=by rw[Aq _ _ _ _ _ _ EN];rfl
 clear EN;obtain⟨F,hF⟩:∃ F,ED N=F:=⟨_,rfl⟩;obtain⟨G,hG⟩:∃ G,H3 D=G:=⟨_,rfl⟩;rw[hF,hG] at hB;rw[hF] at KN1 HL;rw[hG] at KD1;have HLE:=wM (fun(h:F=AE) (h2:m=n)=>show m<=1000000 by have:=HL.out h;omega);clear hF hG HL;cases F
 . rw[Bool.false_and] at hB
   subst hB;go_wp2_with (go_at_call 208;(with_reducible refine KN1.out.mono ?_);rintro e w2 ⟨rfl,rfl⟩)
   go_ret;exact⟨rfl,HBX.out⟩
 . by_cases mh:m=n
   . have Lo:=HLE.out rfl mh
     rw[Az mh,AG,AG] at hB;subst hB;subst mh;have KD2:=wM (KD1.out Lo);clear Lo HLE KD1
     go_wp2_with (first
      |(go_at_call 208;(with_reducible refine KN1.out.mono ?_);rintro e w2 ⟨rfl,rfl⟩)
      |(go_at_call 189;(with_reducible refine KD2.out.mono ?_);rintro e w3 ⟨rfl,rfl⟩))
     go_ret;exact⟨rfl,HBX.out⟩
   . rw[AB mh,Bool.false_and,Bool.and_false] at hB
     subst hB;have hne:¬ (m:Int)=(n:Int):=(by omega);have hne2:((m:Int)==(n:Int))=Ay:=by simpa using hne
     have hne3:decide ((m:Int)=(n:Int))=Ay:=AB hne;clear HLE KD1 mh;go_wp2_with (go_at_call 208;(with_reducible refine KN1.out.mono ?_);rintro e w2 ⟨rfl,rfl⟩)
     go_ret;exact⟨rfl,HBX.out⟩
theorem oa(w:t)(B:Nat):OB w B (Y J 0 0) []:=⟨EY,Dn w B _ _⟩
theorem Ns{w:t}{v:Ao}{l:List Int}(hs:BSl w v l)(hl:l.length<=1000000):Av Ae 95 #[v] w (JQ w l):=by
 have hs':=hs;rcases hs.2 with⟨rfl,rfl⟩| ⟨a,cap,rfl,Cx,hc⟩
 . clear hs hs' hl
   have he:∀ w:t,(binOp .eql 77 (Y J 0 0) (Y J 0 0)).run Ae w=.ok (AP AE) w:=fun _=>rfl
   go_enter Tryz.func95,Tryz.ntmps95;go_wp2;go_ret;exact⟨_,rfl,oa _ _,AC _ _⟩
 . have HS:=wM hs'
   have HL:Hid (0+l.length<=140737488355328):=wM (by omega);have H0:=wM (PK w);have hb0:=As w (Am #[] 5);have HK:=wM (fun(p:Addr) (hp:p.block<w.heap.size)=>C9 w (Am #[] 5) p hp);have Ed:w.heap.size<=(w.alloc (Am #[] 5)).heap.size:=(by simp);clear hs hs' hc hl;have he:∀ w:t,(binOp .eql 77 (Y (I a) l.length cap) (Y J 0 0)).run Ae w=.ok (AP Ay) w:=fun _=>rfl
   go_enter Tryz.func95,Tryz.ntmps95
   go_wp2_with (at_builtin;refine BQ _ rfl (.tmp 5) (.tmp 6) rfl w.heap.size _ [] rfl H0.out w _ l rfl HS.out HK.out HL.out Ed ?_
                intro v3 w3 hob3 hb3 _)
   go_ret;exact⟨_,rfl,hob3,hb0.trans hb3⟩
theorem nu(n:Nat):madeCells (Y J 0 0).cells n=AK n (Y J 0 0):=by
 apply Array.ext';rw[show(Y J 0 0).cells=#[Y J 0 0] from rfl,toList_madeCells_one];simp
theorem Kh(w:t){ops:Array BE}{rest:List BE}{o:BE}{a:Act}{Q:Exit->Act->t->Prop}
 (hg:o.guard=J) (l c:Operand) (JF:o.op=Op.makeSlice 95 l c) (C:Int) (n:Nat) (hl:a.eval l=O Ad C) (hc:a.eval c=O Ad C) (hC:C=n) (hn:n<=1000000)
 (hK:Cf Ae ops Q rest (a.put o.dst (Y (I ⟨w.heap.size,0,J⟩) n n)) (w.alloc (Am (AK n (Y J 0 0)) 77))):
 Cf Ae ops Q (o :: rest) a w:=by
 refine CA hg fun K hK'=>?_
 obtain⟨i,h2,h3,h4,h5⟩:=Bf QE;subst hC;have CX:=run_make (P:=Ae) w 95 77 i (Y J 0 0) Tryz.underlying95 h2 h3 Ad Ad n n (by omega) (by omega) (by rw[h5];omega) (by omega);unfold BE.wp;simp only[Cd,h4,Nat.mul_one,nu] at CX;simp[execOp,JF,hl,hc,CX,Result.andThen];exact hK' _ _ hK
theorem aF{W:t}{g:Nat}{vs:List Ao}{T:Cg}(h:W.heap[g]? =I (Am vs.toArray T (0,0)))(k:Nat):W.frozen? ⟨g,k,J⟩=Ay:=by
 simp[t.frozen?,h]
theorem i_{W:t}{g:Nat}{vs:List Ao}{T:Cg}(h:W.heap[g]? =I (Am vs.toArray T (0,0)))(j:Nat)(y:Ao):(W.setCell ⟨g,j,J⟩ y).heap[g]? =I (Am (vs.set j y).toArray T (0,0)):=by
 rw[A8 W g j _ _ _ h];simp
def RowB(w:t)(g B n:Nat)(D:List (List Int))(k:Nat):Prop:=
 ∃ vs:List Ao,vs.length=n/\w.heap[g]? =I (Am vs.toArray 77 (0,0))/\∀ j,j<k->BElt w B (vs.getD j undef) (D.getD j [])
theorem RowB.make(w:t)(B n:Nat)(D:List (List Int)):RowB (w.alloc (Am (AK n (Y J 0 0)) 77)) w.heap.size B n D 0:=
 ⟨Aw n (Y J 0 0),A3,by rw[Ar];simp,fun j hj=>absurd hj (A9 _)⟩
theorem RowB.row{w:t}{g B n:Nat}{D:List (List Int)}{k:Nat}(h:RowB w g B n D k):∃ vs:List Ao,vs.length=n/\w.heap[g]? =I (Am vs.toArray 77 (0,0)):=by
 obtain⟨vs,h1,h2,_⟩:=h;exact⟨vs,h1,h2⟩
theorem RowB.below{w w':t}{g B n:Nat}{D:List (List Int)}{k:Nat}(h:RowB w g B n D k)(hb:Ap w.heap.size w w'):RowB w' g B n D k:=by
 obtain⟨vs,h1,h2,h3⟩:=h;have hg:g<w.heap.size:=(Ah.1 h2).1;exact⟨vs,h1,(hb.block g hg).trans h2,fun j hj=>(h3 j hj).below hb⟩
theorem RowB.set{w:t}{g B n:Nat}{D:List (List Int)}{k:Nat}(h:RowB w g B n D k)(hk:k<n)(hB:B<=g){y:Ao}(hy:BElt w B y (D.getD k [])):RowB (w.setCell ⟨g,k,J⟩ y) g B n D (k+1):=by
 obtain⟨vs,h1,h2,h3⟩:=h;have hgr:w.grownBy (w.setCell ⟨g,k,J⟩ y) (I g):=by
  have:=Wrote.setCell w g k y;exact⟨this.1,this.2.1,this.2.2.1,by rw[this.2.2.2.1];exact At _,fun b hb hne=>this.2.2.2.2 b (fun e=>hne (by rw[e]))⟩
 have hrow:∀ g',I g=I g'->B<=g'/\∃ cur,w.heap[g']? =I (Am cur 77 (0,0)):=fun g' e=>by
  obtain rfl:=A0 e;exact⟨hB,_,h2⟩
 refine⟨vs.set k y,by rw[AF];exact h1,i_ h2 k y,fun j hj=>?_⟩;by_cases e:j=k
 . subst e
   have:=hy.grown hrow hgr
   simpa [h1,hk] using this
 . have:=(h3 j (by omega)).grown hrow hgr
   rw[An,Bp (by omega),<- An];exact this
theorem RowB.done{w:t}{g B:Nat}{D:List (List Int)}(h:RowB w g B D.length D D.length)(hB:B<=g)(hm:D.length<=1000000):BBR w B (Y (I ⟨g,0,J⟩) D.length D.length) D:=by
 obtain⟨vs,h1,h2,h3⟩:=h;refine⟨vs,h1,h3,by rw[h1,Nat.mul_one],AW ⟨g,D.length,_,rfl,hB,h2,At _,by unfold maxLen;omega,by simp[h1],?_⟩⟩;rw[AR (by simp[h1])]
theorem QJ{w:t}{v:Ao}{D:List (List Int)}(hs:BBSl w v D)(hD:D.length<=1000000)(hl:∀ j,(D.getD j []).length<=1000000)
 (B:Nat) (hB:B<=w.heap.size):Av Ae 190 #[v] w fun e w'=>∃ u,e=Aj u/\BBR w' B u D/\Ap w.heap.size w w':=by
 obtain⟨ao,cap,rfl,_,hc⟩:=hs.open';have HDN:=wM (fun W (h:RowB W w.heap.size B D.length D D.length)=>h.done hB hD);have HBG:=wM hB;have HLN:=wM hl;obtain⟨n,hn⟩:=nm D.length;rw[<- hn] at hc hD HDN |-
 have HC:=wM hc;have hbx:=As w (Am (AK n (Y J 0 0)) 77);have Il:=RowB.make w B n D;clear hs hc hl hn hB;go_enter Tryz.func190,Tryz.ntmps190;go_wp2_with (at_make;refine Kh w rfl _ _ rfl (n:Int) n rfl rfl rfl hD ?_)
 generalize w.alloc (Am (AK n (Y J 0 0)) 77)=w1 at hbx Il |-
 have HR0:=wM Il;have HBX:=wM hbx;obtain⟨g,hg⟩:=nm w.heap.size;rw[<- hg] at HR0 HDN HBG |-
 have HG:=wM hg;clear Il hbx hg;go_loopw [11] (fun i wr=>∃ k:Nat,k<=n/\i=O Ad k/\Hid (RowB wr g B n D k)/\Hid (Ap w.heap.size w wr)) (fun i _=>n-(intOf i).toNat)
 case atStart=>exact⟨0,by omega,rfl,HR0,HBX⟩
 case round=>
  obtain⟨k,hk,rfl,HR,HB⟩:=hrel;clear HR0 HBX;by_cases hlt:k<n
  . obtain⟨b,off,rfl,hb,hcc⟩:=HC.out (by omega)
    obtain⟨u,hcu,hu⟩:=hcc k hlt;have hck:=(HB.out.cell (p:=⟨b,off+k,J⟩) hb).trans hcu;have KC:=wM (Ns (hu.below HB.out) (HLN.out k));have ek:(k:Int)<(n:Int):=(by omega);obtain⟨vs,uq,hvr⟩:=HR.out.row;have hgr:g<wr.heap.size:=(Ah.1 hvr).1;clear hcc hcu hu hb uq hvr
    go_wp2_with (go_at_call 95;(with_reducible refine KC.out.mono ?_);rintro e w2 ⟨y,rfl,hoy,hb2⟩
                 obtain⟨yo,yc,rfl,_⟩:=hoy.bsl.shape;generalize (D.getD k []).length=yl at hoy |-
                 have hr2:=HR.out.below hb2;have HY:=wM (hoy.elt (B:=B));have HR2:=wM hr2;obtain⟨vs2,lJ,ZJ⟩:=hr2.row;have hf2:=aF ZJ k;have hc2:∃ z,w2.cell? ⟨g,k,J⟩=I z:=⟨vs2[k]'(by omega),by rw[Aq _ _ _ _ _ _ ZJ];simp[lJ,hlt]⟩;obtain⟨z,hz⟩:=hc2;have HB2:=wM (HB.out.trans (hb2.mono HB.out.size));clear hr2 lJ ZJ hoy)
    go_roundw
    case rel=>exact⟨k+1,by omega,by go_num,HR2.out.set hlt HBG.out HY.out,(HB2.out.trans ((Wrote.setCell w2 g k _).below (by rw[HG.out];exact At _)))⟩
    case measure=>simp[intOf];omega
  . obtain rfl:k=n:=by omega
    go_wp2;go_ret;exact⟨_,rfl,HDN.out _ HR.out,HB.out⟩
theorem Wl(w:t)(l:List Int)(hb:Fv l)(n:Nat)(hn:l.length=n)(C:Array Ao)(hC:C=(l.map (O .u8)).toArray)(fz:Nat × Nat):BSl (w.alloc (Am C 5 fz)) (Y (I ⟨w.heap.size,0,J⟩) n n) l:=by
 subst hC hn;have hh:(w.alloc (Am (l.map (O .u8)).toArray 5 fz)).heap[w.heap.size]? =I (Am (l.map (O .u8)).toArray 5 fz):=by
  show(w.heap.push _)[w.heap.size]? =_
  simp
 refine⟨hb,AW ⟨⟨w.heap.size,0,J⟩,l.length,rfl,At _,fun j hj=>⟨by simp,rfl,?_⟩⟩⟩;show(w.alloc _).cell? ⟨w.heap.size,0+j,J⟩=_
 rw[Br,Aq _ _ _ _ _ _ hh];simp[hj]
theorem ic(w:t):BSl (w.alloc (Am #[O .u8 106,O .u8 114,O .u8 110,O .u8 108] 5 (4,5))) (Y (I ⟨w.heap.size,0,J⟩) 4 4) jrnl:=
 Wl w jrnl iJ 4 rfl _ rfl _
theorem jP(w:t):BSl (w.alloc (Am #[O .u8 100,O .u8 111,O .u8 110,O .u8 101] 5 (4,5))) (Y (I ⟨w.heap.size,0,J⟩) 4 4) Qw:=
 Wl w Qw jm 4 rfl _ rfl _
theorem LH(w:t)(C:Array Ao)(T:Cg)(fz:Nat × Nat):Ap w.heap.size w (w.alloc (Am C T fz)):=As w _
def J7(q:Int)(N:List Int)(k:Nat):List Int:=jrnl ++ BT q 4 ++ BT (N.length:Int) 2 ++ IW (N.take k)
theorem XZ(q:Int)(N:List Int):J7 q N N.length=Cv q N:=by unfold J7 Cv;rw[BP]
theorem Zp(q:Int)(N:List Int)(k:Nat)(hk:k<N.length):J7 q N k ++ BT (N.getD k 0) 2=J7 q N (k+1):=by
 unfold J7;rw[fD N k hk,A7]
theorem Zc(q:Int)(N:List Int):J7 q N 0=jrnl ++ BT q 4 ++ BT (N.length:Int) 2:=by
 unfold J7;rw[List.take_zero];show _ ++ []=_
 rw[BW]
theorem Tb(q:Int)(N:List Int)(k:Nat)(h:k<=37):(J7 q N k).length<=252:=by
 unfold J7;simp only[AD,Bc,Kk,AJ];have:jrnl.length=4:=rfl;omega
theorem QV{w:t}{v:Ao}{q:Int}{N:List Int}(hs:ISl w v N)(JJ:N.length<=37)(hx:∀ i,i<N.length->0<=N.getD i 0/\N.getD i 0<=767)(q0:0<=q)(q1:q<4294967296):
 Av Ae 193 #[O .u32 q,v] w (JQ w (BK (Cv q N))):=by
 obtain⟨ao,cap,rfl,hc⟩:=hs.open';have HZ:=wM (Zc q N);have HS:=wM (Zp q N);have HF:=wM (XZ q N);have HLN:=wM (Tb q N);have HX:=wM hx;obtain⟨n,hn⟩:=nm N.length;rw[<- hn] at hc JJ HZ HS HF HX |-
 have HC:=wM hc;have kc:=fun(w:t) (C:Array Ao) (n c:Nat)=>E4 (P:=Ae) w 77 5 C n c Tryz.underlying77 Tryz.underlying5
 have ur:IntKind.u64.wrap q=q:=IntWalk.u64_in _ (by omega);have hwn:IntKind.u64.wrap (n:Int)=(n:Int):=IntWalk.u64_in _ (by omega);have K1:=wM (FK (ic w) (by decide) q 4 4 (by omega) (by omega) rfl q0 (by omega));have K2:=wM (fun W v (hv:BSl W v (jrnl ++ BT q 4))=>FK hv (by rw[AD,Bc];decide) (n:Int) 2 2 (by omega) (by omega) rfl (by omega) (by omega));have hb1:=LH w #[O .u8 106,O .u8 114,O .u8 110,O .u8 108] 5 (4,5);clear hs hc hx hn q1 q0;go_enter Tryz.func193,Tryz.ntmps193
 go_wp2_with (first
  |(go_at_call 133;(with_reducible refine K1.out.mono ?_);rintro e w2 ⟨v2,rfl,hob2,hb2⟩
    have HB2:=wM (hb1.trans (hb2.mono hb1.size)))
  |(go_at_call 133;(with_reducible refine(K2.out _ _ hob2.bsl).mono ?_);rintro e w3 ⟨v3,rfl,hob3,hb3⟩
    have HB3:=wM (HB2.out.trans (hb3.mono HB2.out.size))))
 have HV3:Hid (BSl w3 v3 (J7 q N 0)):=wM (by rw[HZ.out];exact hob3.bsl);clear hob2 hob3 hb1 hb2 hb3 kc;go_loopw [5,22] (fun u i wr=>∃ k:Nat,k<=n/\i=O Ad k/\Hid (BSl wr u (J7 q N k))/\Hid (Ap w.heap.size w wr)) (fun _ i _=>n-(intOf i).toNat)
 case atStart=>exact⟨0,by omega,rfl,HV3,HB3⟩
 case round=>
  obtain⟨k,hk,rfl,HV,HB⟩:=hrel;clear HV3 HB3;by_cases hlt:k<n
  . obtain⟨b,off,rfl,hb,hcc⟩:=HC.out (by omega)
    have hck:=(HB.out.cell (p:=⟨b,off+k,J⟩) hb).trans (hcc k hlt);obtain⟨x0,x1⟩:=HX.out k hlt;have IL:=HS.out k hlt;obtain⟨x,Uu⟩:=nm (N.getD k 0);rw[<- Uu] at hck x0 x1 IL;have HS1:=wM IL;have ek:(k:Int)<(n:Int):=(by omega);have te:IntKind.u64.wrap x=x:=IntWalk.u64_in _ (by omega);have KP:=wM (FK HV.out (by have:=HLN.out k (by omega);omega) x 2 2 (by omega) (by omega) rfl x0 (by omega));clear hcc hb Uu IL;go_wp2_with (go_at_call 133;(with_reducible refine KP.out.mono ?_);rintro e w4 ⟨v4,rfl,hob4,hb4⟩)
    go_roundw
    case rel=>exact⟨k+1,by omega,by go_num,by show BSl _ _ _;rw[<- HS1.out];exact hob4.bsl,HB.out.trans (hb4.mono HB.out.size)⟩
    case measure=>simp[intOf];omega
  . obtain rfl:k=n:=by omega
    have KS:=wM (La HV.out (HLN.out k (by omega)));go_wp2_with (go_at_call 187;(with_reducible refine KS.out.mono ?_);rintro e w5 ⟨v5,rfl,hob5,hb5⟩)
    go_ret;refine⟨_,rfl,?_,HB.out.trans (hb5.mono HB.out.size)⟩;rw[<- HF.out];exact hob5.more HB.out.size
theorem S6(w:t){q:Int}(q0:0<=q)(q1:q<4294967296):Av Ae 188 #[O .u32 q] w (JQ w (BK (DX q))):=by
 have kc:=fun(w:t) (C:Array Ao) (n c:Nat)=>E4 (P:=Ae) w 77 5 C n c Tryz.underlying77 Tryz.underlying5
 have ur:IntKind.u64.wrap q=q:=IntWalk.u64_in _ (by omega);have K1:=wM (FK (jP w) (by decide) q 4 4 (by omega) (by omega) rfl q0 (by omega));have K2:=wM (fun W v (hv:BSl W v (Qw ++ BT q 4))=>La hv (by rw[AD,Bc];decide));have hb1:=LH w #[O .u8 100,O .u8 111,O .u8 110,O .u8 101] 5 (4,5);clear q1 q0;go_enter Tryz.func188,Tryz.ntmps188
 go_wp2_with (first
  |(go_at_call 133;(with_reducible refine K1.out.mono ?_);rintro e w2 ⟨v2,rfl,hob2,hb2⟩
    have HB2:=wM (hb1.trans (hb2.mono hb1.size)))
  |(go_at_call 187;(with_reducible refine(K2.out _ _ hob2.bsl).mono ?_);rintro e w3 ⟨v3,rfl,hob3,hb3⟩))
 go_ret;exact⟨_,rfl,hob3.more HB2.out.size,HB2.out.trans (hb3.mono HB2.out.size)⟩
theorem Jw(S:Cg)(hS:Ae.underlying S=I (.slice 77)){ops:Array BE}{o:BE}{a:Act}{w:t}{K:Act->t->Prop}{Q:Exit->Act->t->Prop}{X:Prop}(Du:o.guard=J)(s y:Operand)
 (ho:o.op=.call { callee:=.builtin .append,args:=#[s,y],argTypes:=#[S,S] })
 (B E:Nat) (qs:E<=B) (v:Ao) (L:List (List Int)) (hs:a.eval s=v) (hown:BB2 w B E v L) (u:Ao) (M:List (List Int)) (hy:a.eval y=u) (hr:BBE w E u M)
 (hlen:L.length+M.length<=1000000) (hB:B<=w.heap.size)
 (h:∀ v' w',BB2 w' B E v' (L ++ M)->Ap B w w'->w.grownBy w' v.ownBlock->K (a.put o.dst v') w'):
 if Region.wanted o (yielded ops a.tmps)=AE then BE.wp Ae o a w K Q else X:=by
 have hw:Region.wanted o (yielded ops a.tmps)=AE:=by simp[Region.wanted,Du]
 rw[Au hw];obtain⟨v',w',hr,h2,h3,h4⟩:=Hu S hS w B E qs o.type v L hown u M hr hlen hB;unfold BE.wp execOp;simp only[ho,resolve,invoke,builtin,Dg,Sem.run_pure,Result.andThen_ok,Fc,DO,IJ,hs,hy,hr];exact h v' w' h2 h3 h4
theorem FY{w w':t}{row:Option Nat}(h:w.grownBy w' row)(b o:Nat)(hb:b<w.heap.size)(hne:∀ k,row=I k->k≠b):w'.cell? ⟨b,o,J⟩=w.cell? ⟨b,o,J⟩:=by
 apply A5;exact h.block b hb (fun e=>hne b e.symm rfl)
theorem Lc{g d n c:Nat}(h:d<g):∀ k,(Y (I ⟨g,0,J⟩) n c).ownBlock=I k->k≠d:=fun k hk=>by
 obtain rfl:g=k:=by simpa [Ao.ownBlock] using hk
 omega
theorem dR{w:t}{v:Ao}{q:Int}{N:List Int}{D:List (List Int)}(h:TxV w v q N D)(hf:Gf N D=AE)(q0:0<=q)(q1:q<4294967296):
 Av Ae 172 #[v] w fun e w'=>∃ u,e=Aj (AH #[u,O Ad 0])/\BB2 w' w.heap.size 0 u (Iw q N D)/\Ap w.heap.size w w':=by
 have h':=h;obtain⟨no,nc,ao,dc,rfl,hN,hD⟩:=h;obtain⟨f1,f2,f3⟩:=EJ hf;have KH:=wM (fun W (hb:Ap w.heap.size w W)=>QV (hN.1.below hb) f1 (fun i hi=>(f3 i hi).1) q0 q1);have KC:=wM (fun W (hb:Ap w.heap.size w W)=>QJ (hD.below hb) (by omega) (fun j=>by
  by_cases hj:j<N.length
  . rw[(f3 j hj).2.1];omega
  . rw[An,A2 (by omega)];exact AT _) 0 (AT _))
 have KE:=wM (fun W=>S6 W q0 q1);have hD37:D.length<=37:=by omega
 have HL1:Hid ([BK (Cv q N)].length+D.length<=1000000):=wM (by simp;omega);have HL2:Hid (([BK (Cv q N)] ++ D).length<=100000):=wM (by simp;omega);have HPK:Hid (Iw q N D=([BK (Cv q N)] ++ D) ++ [BK (DX q)]):=wM rfl;have HLH:Hid ((BK (Cv q N)).length=256):=wM (Dm _ (by rw[Gh];omega));have HLE:Hid ((BK (DX q)).length=256):=wM (Dm _ (by rw[Kf];omega));obtain⟨n,hn⟩:=nm N.length;obtain⟨m,hm⟩:=nm D.length;rw[<- hn] at KH h' |-
 rw[<- hm] at KC h' |-
 have hbx:=As w (Am #[O .u32 q,Y no n nc,Y ao m dc] 215);have EN:=Ar w (Am #[O .u32 q,Y no n nc,Y ao m dc] 215);have KF:=wM (UR (h'.below hbx) AE hf);generalize BK (Cv q N)=HB at KH HL1 HL2 HPK HLH;generalize BK (DX q)=EB at KE HPK HLE;clear hN hD hn hm h' hf f1 f2 f3 hD37 q0 q1;go_enter Tryz.func172,Tryz.ntmps172;go_upto_region 1 with(fail)
 have Ou:w.heap.size<(w.alloc (Am #[O .u32 q,Y no n nc,Y ao m dc] 215)).heap.size:=by simp
 generalize w.alloc (Am #[O .u32 q,Y no n nc,Y ao m dc] 215)=u at hbx EN KF Ou |-
 have d0:u.cell? ⟨w.heap.size,0,J⟩=I (O .u32 q):=by rw[Aq _ _ _ _ _ _ EN];rfl
 have d1:u.cell? ⟨w.heap.size,1,J⟩=I (Y no n nc):=by rw[Aq _ _ _ _ _ _ EN];rfl
 have d2:u.cell? ⟨w.heap.size,2,J⟩=I (Y ao m dc):=by rw[Aq _ _ _ _ _ _ EN];rfl
 clear EN;go_wp2_with (go_at_call 191;(with_reducible refine KF.out.mono ?_);rintro e w2 ⟨rfl,hb2⟩)
 have HB2:Hid (Ap w.heap.size w w2.drew):=wM (AM (hbx.trans (hb2.mono hbx.size)) 1);have e0:w2.drew.cell? ⟨w.heap.size,0,J⟩=I (O .u32 q):=(hb2.cell (p:=⟨w.heap.size,0,J⟩) Ou).trans d0;have e1:w2.drew.cell? ⟨w.heap.size,1,J⟩=I (Y no n nc):=(hb2.cell (p:=⟨w.heap.size,1,J⟩) Ou).trans d1;have e2:w2.drew.cell? ⟨w.heap.size,2,J⟩=I (Y ao m dc):=(hb2.cell (p:=⟨w.heap.size,2,J⟩) Ou).trans d2;have hz2:w.heap.size<w2.drew.heap.size:=AA Ou hb2.size;obtain⟨d,hd⟩:=nm w.heap.size;rw[<- hd] at HB2 e0 e1 e2 hz2 KH KC |-
 have HD:=wM hd;clear d0 d1 d2 hbx hb2 Ou KF hd
 go_region_held3 (fun W=>W.cell? ⟨d,0,J⟩=I (O .u32 q)/\W.cell? ⟨d,1,J⟩=I (Y no n nc)/\W.cell? ⟨d,2,J⟩=I (Y ao m dc)) (first|exact⟨i0,i1,i2⟩|exact⟨h0 _,h1 _,h2 _⟩|exact⟨g0,g1,g2⟩|exact⟨f0' _,f1' _,f2' _⟩|exact⟨f0,f1,f2⟩|exact⟨e0,e1,e2⟩) (first
  |(go_at_call 193;(with_reducible refine(KH.out _ HB2.out).mono ?_);rintro e w3 ⟨v3,rfl,hob3,hb3⟩
    obtain⟨ho,hc,rfl,_⟩:=hob3.bsl.shape;have HO3:=wM (hob3.elt (B:=0));rw[HLH.out] at HO3 |-
    have f0:=(hb3.cell (p:=⟨d,0,J⟩) hz2).trans e0;have f1:=(hb3.cell (p:=⟨d,1,J⟩) hz2).trans e1;have f2:=(hb3.cell (p:=⟨d,2,J⟩) hz2).trans e2;have I9:=AA hz2 hb3.size;have f0':=fun o=>((As w3 o).cell (p:=⟨d,0,J⟩) I9).trans f0
    have f1':=fun o=>((As w3 o).cell (p:=⟨d,1,J⟩) I9).trans f1
    have f2':=fun o=>((As w3 o).cell (p:=⟨d,2,J⟩) I9).trans f2
    have HB3:=wM (HB2.out.trans (hb3.mono (Ct hz2)));clear hob3)
  |(go_at_call 190;(with_reducible refine(KC.out w3 HB3.out).mono ?_);rintro e w4 ⟨v4,rfl,hv4,hb4⟩
    have g0:=(hb4.cell (p:=⟨d,0,J⟩) I9).trans f0;have g1:=(hb4.cell (p:=⟨d,1,J⟩) I9).trans f1;have g2:=(hb4.cell (p:=⟨d,2,J⟩) I9).trans f2;have M9:=AA I9 hb4.size;have h0:=fun o=>((As w4 o).cell (p:=⟨d,0,J⟩) M9).trans g0
    have h1:=fun o=>((As w4 o).cell (p:=⟨d,1,J⟩) M9).trans g1
    have h2:=fun o=>((As w4 o).cell (p:=⟨d,2,J⟩) M9).trans g2
    have HO4:=wM (HO3.out.below hb4);have HV4:=wM hv4.be;have HB4:=wM (HB3.out.trans (hb4.mono (Ct I9))))
  |(go_at_call 190;(with_reducible refine(KC.out (w3.alloc _) (HB3.out.trans ((As w3 _).mono (Ct I9)))).mono ?_);rintro e w4 ⟨v4,rfl,hv4,hb4⟩
    have ut:d<(w3.alloc (Am #[Y ho 256 hc] 77)).heap.size:=(by simp;omega);have g0:=(hb4.cell (p:=⟨d,0,J⟩) ut).trans (f0' _);have g1:=(hb4.cell (p:=⟨d,1,J⟩) ut).trans (f1' _);have g2:=(hb4.cell (p:=⟨d,2,J⟩) ut).trans (f2' _);have HO4:=wM ((TU HO3.out (Ct I9)).below hb4);have HV4:=wM hv4.be;have M9:=AA ut hb4.size;have HB4:=wM ((HB3.out.trans ((As w3 _).mono (Ct I9))).trans (hb4.mono (Ct ut))))
  |(refine Jw 95 Tryz.underlying95 rfl (.tmp 13) (.tmp 16) rfl d 0 (AT _) _ [HB] rfl HO4.out v4 D rfl HV4.out HL1.out (Ct M9) ?_
    intro v5 w5 hv5 hb5 SH;have i0:=(FY SH d 0 M9 (Lc I9)).trans g0;have i1:=(FY SH d 1 M9 (Lc I9)).trans g1;have i2:=(FY SH d 2 M9 (Lc I9)).trans g2;have HB5:=wM (HB4.out.trans hb5))
  |(refine Jw 95 Tryz.underlying95 rfl (.tmp 13) (.tmp 16) rfl d 0 (AT _) _ [HB] rfl (TU HO4.out (Ct M9)) v4 D rfl (HV4.out.below (As w4 _)) HL1.out (AI (Ct M9) (As w4 _).size) ?_
    intro v5 w5 hv5 hb5 SH;have i0:=(FY SH d 0 (AA M9 (As w4 _).size) (Lc M9)).trans (h0 _);have i1:=(FY SH d 1 (AA M9 (As w4 _).size) (Lc M9)).trans (h1 _);have i2:=(FY SH d 2 (AA M9 (As w4 _).size) (Lc M9)).trans (h2 _);have HB5:=wM ((HB4.out.trans ((As w4 _).mono (Ct M9))).trans hb5)))
 all_goals (
  have HBG:=wM (by have:=HB5.out.size;rw[<- HD.out] at this;exact this);have HV5:=wM hv5;clear g0 g1 g2 i1 i2 e0 e1 e2 f0 f1 f2 hv5 hv4
  go_wp2_with (first
   |(go_at_call 188;(with_reducible refine(KE.out _).mono ?_);rintro e w6 ⟨v6,rfl,hob6,hb6⟩
     obtain⟨eo,ec,rfl,_⟩:=hob6.bsl.shape;have HO6:=wM (hob6.elt (B:=0));rw[HLE.out] at HO6 |-
     have HV6:=wM (HV5.out.below hb6);have HG6:=wM (AI HBG.out hb6.size);have HB6:=wM (HB5.out.trans (hb6.mono HBG.out));clear hob6)
   |(at_builtin;refine GI 95 Tryz.underlying95 w6 (Y eo 256 ec) EB rfl (.tmp 18) (.tmp 22) rfl d 0 (AT _) v5 ([HB] ++ D) rfl HV6.out HO6.out w6.heap.size rfl rfl HL2.out HG6.out ?_;intro v7 w7 hv7 hb7))
  go_ret2;exact⟨_,rfl,by rw[HPK.out,<- HD.out];exact hv7,by rw[<- HD.out];exact HB6.out.trans hb7⟩)
def Uf(n:Int):Bool:=decide (0<=n/\n<=767)
def FT(l:List Int):Bool:=l.all Uf
theorem Fa(l:List Int):FT l=AE ↔ ∀ j,j<l.length->Uf (l.getD j 0)=AE:=by
 unfold FT;rw[Dh];constructor
 . intro h j hj
   have:l.getD j 0=l[j]:=(by simp[hj]);rw[this];exact h _ (Be hj)
 . intro h x hx
   obtain⟨j,hj,rfl⟩:=Cw hx;have:=h j hj
   simpa [hj] using this
theorem aJ{l:List Int}{k:Nat}(hk:k<l.length)(h:Uf (l.getD k 0)=Ay):FT l=Ay:=by
 cases hl:FT l
 . rfl
 . have:=(Fa l).1 hl k hk
   rw[h] at this;cases this
theorem aD(A B:List Int)(n:Int)(k:Nat)(h:0<=n)(h1:n<256 ^ k):Cl (A ++ (BT n k ++ B)) A.length k=n:=by
 unfold Cl;rw[List.drop_left,Dz (Bc n k),JP n k h];exact DQ h h1
def Nl(l:List Int):Nat->List Int
 |0=>[]
 |k+1=>Nl l k ++ BT (l.getD k 0) 2
theorem F0(l:List Int):∀ k,(Nl l k).length=2*k
 |0=>rfl
 |k+1=>by rw[Nl,AD,F0 l k,Bc];omega
def FR(l:List Int):List Int:=Nl l 128
def W6(b:List Int)(k:Nat):List Int:=(Bu k).map fun j=>Cl b (2*j) 2
theorem H9(b:List Int)(k:Nat):(W6 b k).length=k:=by simp[W6]
def IG(b:List Int)(n k:Nat):List Int:=(Bu n).map fun j=>if j<k then Cl b (2*j) 2 else 0
theorem GG(b:List Int)(n k:Nat):(IG b n k).length=n:=by simp[IG]
theorem YY(b:List Int)(n k:Nat):(IG b n k).set k (Cl b (2*k) 2)=IG b n (k+1):=by
 apply Bg (by rw[AF,GG,GG]);intro i h1 h2;simp only[IG,Ef,Co,Cc];by_cases e:k=i
 . subst e;rw[Au rfl,Au (by omega)]
 . rw[Ax e]
   by_cases h:i<k
   . rw[Au h,Au (by omega)]
   . rw[Ax h,Ax (by omega)]
theorem UV(b:List Int)(n:Nat):IG b n 0=Aw n 0:=by
 rw[List.eq_replicate_iff];refine⟨GG b n 0,fun x hx=>?_⟩;obtain⟨i,_,rfl⟩:=BZ.1 hx;rw[Ax (by omega)]
theorem WK(b:List Int)(n:Nat):IG b n n=W6 b n:=by
 unfold IG W6;apply Ck;intro i hi;rw[Au (Bd.1 hi)]
theorem Yb(l:List Int)(i:Nat):∀ j,i<j->∃ B,Nl l j=Nl l i ++ (BT (l.getD i 0) 2 ++ B):=by
 intro j;induction j with
 |zero=>intro h;omega
 |succ j ih=>
  intro h;by_cases e:i=j
  . subst e;exact⟨[],by rw[Nl];simp⟩
  . obtain⟨B,hB⟩:=ih (by omega)
    exact⟨B ++ BT (l.getD j 0) 2,by rw[Nl,hB];simp⟩
theorem inB_iff{n:Int}:Uf n=AE ↔ 0<=n/\n<=767:=decide_eq_true_iff
theorem kw{l:List Int}(hl:l.length=128)(h:FT l=AE):W6 (FR l) 128=l:=by
 apply Bg (by rw[H9,hl]);intro i h1 h2;have hi:i<128:=by rw[H9] at h1;exact h1
 obtain⟨B,hB⟩:=Yb l i 128 hi;have hb:=inB_iff.1 ((Fa l).1 h i (by omega));have e:l.getD i 0=l[i]:=by simp[h2]
 simp only[W6,Co,Cc];rw[FR,hB,<- F0 l i,aD _ _ _ _ hb.1 (by have:(256:Int) ^ 2=65536:=rfl;omega),e]
def oo(b:List Int):Prop:=b.length=256/\FT (W6 b 128)=AE
theorem mH{l:List Int}(hl:l.length=128)(h:FT l=AE):oo (FR l):=⟨by rw[FR,F0],by rw[kw hl h];exact h⟩
theorem jC{l:List Int}(h:∀ x∈l,0<=x/\x<=255)(a:Nat):0<=Cl l a 2/\Cl l a 2<=65535:=by
 have:=EL h a 2;have e:(256:Int) ^ 2=65536:=rfl;omega
theorem LV(n m:Int)(B:Bool)(h:decide (0<=n/\n<=m)=B)(w:t):Av Ae 89 #[O Ad n,O Ad m] w fun e w'=>e=Aj (AP B)/\w=w':=by
 by_cases h0:0<=n
 . by_cases h1:n<=m
   . obtain rfl:B=AE:=by rw[<- h];exact Az ⟨h0,h1⟩
     clear h;go_enter Tryz.func89,Tryz.ntmps89;go_wp2;go_ret;exact⟨rfl,rfl⟩
   . obtain rfl:B=Ay:=by rw[<- h];exact AB fun h=>h1 h.2
     clear h;go_enter Tryz.func89,Tryz.ntmps89;go_wp2;go_ret;exact⟨rfl,rfl⟩
 . obtain rfl:B=Ay:=by rw[<- h];exact AB fun h=>h0 h.1
   clear h;go_enter Tryz.func89,Tryz.ntmps89;go_wp2;go_ret;exact⟨rfl,rfl⟩
theorem Kl(n:Int)(B:Bool)(h:Uf n=B)(w:t):Av Ae 91 #[O Ad n] w fun e w'=>e=Aj (AP B)/\w=w':=by
 have K:=wM (LV n 767 B h);clear h;go_enter Tryz.func91,Tryz.ntmps91;go_wp2_with (go_at_call 89;refine(K.out _).mono ?_;rintro e w' ⟨rfl,rfl⟩)
 go_ret;exact⟨rfl,rfl⟩
theorem Nb(n:Int)(B:Bool)(h:Uf n=B)(w:t):Av Ae 156 #[O Ad n] w fun e w'=>e=Aj (AP B)/\w=w':=by
 by_cases h0:0<=n
 . by_cases h1:n<=767
   . obtain rfl:B=AE:=by rw[<- h];exact Az ⟨h0,h1⟩
     clear h;go_enter Tryz.func156,Tryz.ntmps156;go_wp2;go_ret;exact⟨rfl,rfl⟩
   . obtain rfl:B=Ay:=by rw[<- h];exact AB fun h=>h1 h.2
     clear h;go_enter Tryz.func156,Tryz.ntmps156;go_wp2;go_ret;exact⟨rfl,rfl⟩
 . obtain rfl:B=Ay:=by rw[<- h];exact AB fun h=>h0 h.1
   clear h;go_enter Tryz.func156,Tryz.ntmps156;go_wp2;go_ret;exact⟨rfl,rfl⟩
theorem S8{w:t}{v:Ao}{l:List Int}(hs:ISl w v l)(hl:l.length<=1000000):Av Ae 90 #[v] w fun e w'=>e=Aj (AP (FT l))/\w=w':=by
 obtain⟨ao,cap,rfl,hc⟩:=hs.open';have CU:=fun k hk h=>aJ (l:=l) (k:=k) hk h
 have hyes:=(Fa l).2;obtain⟨R,hR⟩:=nm (FT l);rw[<- hR] at CU hyes |-
 obtain⟨N,hN⟩:=nm l.length;rw[<- hN] at hc CU hyes hl |-
 have HC:=wM hc;have HNO:=wM CU;have HYE:=wM hyes;clear hc CU hyes hR hs hN;go_enter Tryz.func90,Tryz.ntmps90;go_wp2
 go_loop [7] (fun i=>∃ k:Nat,k<=N/\i=O Ad k/\Hid (∀ j,j<k->Uf (l.getD j 0)=AE)) (fun i=>N-(intOf i).toNat)
 case atStart=>exact⟨0,by omega,rfl,fun j hj=>absurd hj (A9 _)⟩
 case round=>
  obtain⟨k,hk,rfl,HK⟩:=hrel;by_cases hlt:k<N
  . obtain⟨b,off,rfl,_,hcc⟩:=HC.out (by omega)
    have hck:=hcc k hlt;have FV:=HNO.out k hlt;obtain⟨x,hx⟩:=nm (l.getD k 0);rw[<- hx] at hck FV;have HX:=wM hx;have HN1:=wM FV;have ek:(k:Int)<(N:Int):=(by omega);clear hx hcc FV;cases hf:Uf x
    . have HF:=wM hf
      have hR:=HN1.out hf;subst hR;clear hf;go_wp2_with (go_at_call 91;refine(Kl x _ HF.out _).mono ?_;rintro e w' ⟨rfl,rfl⟩)
      go_ret;exact⟨rfl,rfl⟩
    . have HF:=wM hf
      clear hf;go_wp2_with (go_at_call 91;refine(Kl x _ HF.out _).mono ?_;rintro e w' ⟨rfl,rfl⟩)
      go_round
      case rel=>
       refine⟨k+1,by omega,by go_num,fun j hj=>?_⟩;by_cases e:j=k
       . subst e;rw[<- HX.out];exact HF.out
       . exact HK.out j (by omega)
      case measure=>simp[intOf];omega
  . obtain rfl:k=N:=by omega
    have hR:=HYE.out HK.out;subst hR;go_wp2;go_ret;exact⟨rfl,rfl⟩
theorem In{w:t}{v:Ao}{l:List Int}(hs:ISl w v l)(hl:l.length<=1000000)(B:Bool)(h:FT l=B):Av Ae 90 #[v] w fun e w'=>e=Aj (AP B)/\w=w':=by
 rw[<- h];exact S8 hs hl
theorem dq(n:Int)(h:n<1\/47<n)(w:t):Av Ae 63 #[O Ad n] w fun e w'=>e=Aj (AH #[O Ad (-1),O Ad (-1)])/\w=w':=by
 by_cases h0:n<1
 . clear h
   go_enter Tryz.func63,Tryz.ntmps63;go_wp2;go_ret2;exact⟨rfl,rfl⟩
 . have h1:48<=n:=by omega
   clear h;go_enter Tryz.func63,Tryz.ntmps63;go_wp2;go_ret2;exact⟨rfl,rfl⟩
theorem Zo(n:Int)(h0:1<=n)(h1:n<=47)(w:t):Av Ae 63 #[O Ad n] w fun e w'=>e=Aj (AH #[O Ad (n / 8),O Ad (n%8)])/\w=w':=by
 go_enter Tryz.func63,Tryz.ntmps63;go_wp2;go_ret2;exact⟨rfl,rfl⟩
theorem Qx{w:t}{v:Ao}{c:List Int}(hs:BSl w v c)(hc:c.length<=100000)(a k:Nat)(A K:Int)(hA:A=a)(hK:K=k)(Oq:1<=k)(hk:k<=8)(ha:a+k<=c.length)(y:Int)(hy:y=Cl c a k):
 Av Ae 183 #[v,O Ad A,O Ad K] w fun e w'=>e=Aj (AH #[O .u64 y,AP AE])/\w=w':=by
 subst hA hK;have hg:=MC hs (by omega) (a:Int) k (by omega) (by omega);have hn:PI c (a:Int) k=y:=by unfold PI;rw[Au (by omega),hy];rfl
 have hb:dh c (a:Int) k=AE:=Az (by omega);rw[hn,hb] at hg;exact hg
theorem TW(w:t)(M:Nat)(hM:M<=1000):OB (w.alloc (Am (AK M (O .u8 0)) 5)) w.heap.size (Y (I ⟨w.heap.size,0,J⟩) 0 M) []:=
 OB.of_heap (w:=w.alloc (Am (AK M (O .u8 0)) 5)) (B:=w.heap.size) (g:=w.heap.size) (cap:=M) (l:=[]) (rest:=Aw M (O .u8 0)) EY (At _) (by rw[Ar];simp) (by simp) (by unfold maxLen;omega)
theorem Mr(w:t){ops:Array BE}{rest:List BE}{o:BE}{a:Act}{Q:Exit->Act->t->Prop}
 (hg:o.guard=J) (l c:Operand) (JF:o.op=Op.makeSlice 179 l c) (C:Int) (n:Nat) (hl:a.eval l=O .u64 C) (hc:a.eval c=O .u64 C) (hC:C=n) (hn:n<=1000000)
 (hK:Cf Ae ops Q rest (a.put o.dst (Y (I ⟨w.heap.size,0,J⟩) n n)) (w.alloc (iO (Aw n 0) 3))):
 Cf Ae ops Q (o :: rest) a w:=by
 refine CA hg fun K hK'=>?_
 obtain⟨i,h2,h3,h4,h5⟩:=Bf TH;subst hC;have CX:=run_make (P:=Ae) w 179 3 i (O Ad 0) Tryz.underlying179 h2 h3 .u64 .u64 n n (by omega) (by omega) (by rw[h5];omega) (by omega);unfold BE.wp;simp only[Cd,h4,Nat.mul_one,WH] at CX;simp[execOp,JF,hl,hc,CX,Result.andThen];exact hK' _ _ hK
def RowI(w:t)(g:Nat)(N:List Int)(k:Nat):Prop:=∃ l:List Int,l.length=N.length/\w.heap[g]? =I (iO l 3)/\∀ j,j<k->l.getD j 0=N.getD j 0
theorem RowI.make(w:t)(N:List Int):RowI (w.alloc (iO (Aw N.length 0) 3)) w.heap.size N 0:=
 ⟨Aw N.length 0,A3,Ar w _,fun j hj=>absurd hj (A9 _)⟩
theorem RowI.row{w:t}{g:Nat}{N:List Int}{k:Nat}(h:RowI w g N k):∃ l:List Int,l.length=N.length/\w.heap[g]? =I (iO l 3):=by
 obtain⟨l,h1,h2,_⟩:=h;exact⟨l,h1,h2⟩
theorem RowI.set{w:t}{g:Nat}{N:List Int}{k:Nat}(h:RowI w g N k)(hk:k<N.length){y:Int}(hy:y=N.getD k 0):RowI (w.setCell ⟨g,k,J⟩ (O Ad y)) g N (k+1):=by
 obtain⟨l,h1,h2,h3⟩:=h;refine⟨l.set k y,by rw[AF];exact h1,Tm h2 k y,fun j hj=>?_⟩;by_cases e:j=k
 . subst e
   have MV:j<l.length:=(by omega);rw[<- hy];simp[MV]
 . rw[An,Bp (by omega),<- An]
   exact h3 j (by omega)
theorem RowI.done{w:t}{B g:Nat}{N:List Int}(h:RowI w g N N.length)(hB:B<=g)(hm:N.length<=1000000):IR w B (Y (I ⟨g,0,J⟩) N.length N.length) N:=by
 obtain⟨l,h1,h2,h3⟩:=h;have e:l=N:=by
  apply Bg h1;intro i a b;have:=h3 i b
  simpa [a,b] using this
 subst e;exact IR.of_row hB h2 (by unfold maxLen;omega)
theorem IR.more9{w:t}{B:Nat}{v:Ao}{l:List Int}(h:IR w B v l):IR w 0 v l:=by
 refine⟨h.1,?_⟩;rcases h.2 with h| ⟨g,cap,cur,hv,hg,r⟩
 . exact AU h
 . exact AW ⟨g,cap,cur,hv,AT _,r⟩
theorem Sq{w:t}{v:Ao}{c:List Int}{N:List Int}(hs:BSl w v c)(hc:c.length=252)(JJ:N.length<=37)(hcnt:Cl c 8 2=(N.length:Int))(uv:∀ i,i<N.length->Cl c (10+2*i) 2=N.getD i 0)
 (hx:∀ i,i<N.length->0<=N.getD i 0/\N.getD i 0<=65535) (B:Bool) (hB:ED N=B):
 Av Ae 192 #[v] w fun e w'=>∃ u,e=Aj (AH #[u,AP B])/\IR w' 0 u N/\Ap w.heap.size w w':=by
 have KN:=wM (fun W u (h:ISc W u N)=>SC h);rw[hB] at KN;have K8:=wM (Qx hs (by omega) 8 2 8 2 rfl rfl (by omega) (by omega) (by omega) _ hcnt.symm);have KG:=wM (fun W (hb:Ap w.heap.size w W) i (hi:i<N.length) (A:Int) (hA:A=((10+2*i:Nat):Int))=>Qx (hs.below hb) (by omega) (10+2*i) 2 A 2 hA rfl (by omega) (by omega) (by omega) _ (uv i hi).symm);have HX:=wM hx;have HR0:=wM (RowI.make w N);have HDN:=wM (fun W (h:RowI W w.heap.size N N.length)=>(h.done (At _) (by omega)).more9);have HST:=wM (fun W k (h:RowI W w.heap.size N k) hk y hy=>h.set hk (y:=y) hy);have HRW:=wM (fun W k (h:RowI W w.heap.size N k)=>h.row);obtain⟨ao,cap,rfl,_⟩:=hs.shape;obtain⟨n,hn⟩:=nm N.length;rw[<- hn] at K8 KG HX HR0 HDN HST HRW JJ;rw[hc] at K8 KG |-
 have hbx:=As w (iO (Aw n 0) 3);have hn37:¬ (37:Int)<(n:Int):=by omega
 have W8:n<=1000000:=by omega
 clear hs hc hcnt uv hx hB hn;go_enter Tryz.func192,Tryz.ntmps192
 go_wp2_with (first
  |(go_at_call 183;(with_reducible refine K8.out.mono ?_);rintro e w2 ⟨rfl,rfl⟩)
  |(at_make;refine Mr w rfl _ _ rfl (n:Int) n rfl rfl rfl W8 ?_))
 generalize w.alloc (iO (Aw n 0) 3)=w1 at hbx HR0 |-
 have HBX:=wM hbx;obtain⟨g,hg⟩:=nm w.heap.size;rw[<- hg] at HR0 HDN HST HRW |-
 have HG:=wM hg;clear hbx hg;go_loopw [21] (fun i wr=>∃ k:Nat,k<=n/\i=O Ad k/\Hid (RowI wr g N k)/\Hid (Ap w.heap.size w wr)) (fun i _=>n-(intOf i).toNat)
 case atStart=>exact⟨0,by omega,rfl,HR0,HBX⟩
 case round=>
  obtain⟨k,hk,rfl,HR,HB⟩:=hrel;clear HR0 HBX K8;by_cases hlt:k<n
  . have KK:=wM (KG.out _ HB.out k hlt (10+(k:Int)*2) (by push_cast;omega))
    obtain⟨x0,x1⟩:=HX.out k hlt;obtain⟨l,hl1,Xa⟩:=HRW.out _ k HR.out;have hst:=HST.out _ k HR.out hlt _ rfl;obtain⟨x,Uu⟩:=nm (N.getD k 0);rw[<- Uu] at KK x0 x1 hst;have HS1:=wM hst;have hfz:=OR Xa k;have mi:∃ z,wr.cell? ⟨g,k,J⟩=I z:=by
     by_cases hkl:k<l.length
     . exact⟨_,Gp Xa k hkl⟩
     . exact absurd (AA hlt (Nat.le_of_not_lt fun h=>hkl (by omega))) (Nat.lt_irrefl _)
    obtain⟨z,hz⟩:=mi;have ek:(k:Int)<(n:Int):=(by omega);have te:Ad.wrap x=x:=Bq _ (by omega);clear Uu hst hl1 Xa;go_wp2_with (go_at_call 183;(with_reducible refine KK.out.mono ?_);rintro e w2 ⟨rfl,rfl⟩)
    go_roundw
    case rel=>exact⟨k+1,by omega,by go_num,HS1,HB.out.trans ((Wrote.setCell wr g k _).below (by rw[HG.out];exact At _))⟩
    case measure=>simp[intOf];omega
  . obtain rfl:k=n:=by omega
    have KF:=wM (KN.out _ _ (HDN.out _ HR.out).isc);go_wp2_with (go_at_call 208;(with_reducible refine KF.out.mono ?_);rintro e w2 ⟨rfl,rfl⟩)
    go_ret2;exact⟨_,rfl,HDN.out _ HR.out,HB.out⟩
theorem IT{w:t}{v:Ao}{q:Int}{N:List Int}{L:List (List Int)}(hs:BBSl w v L)(h0:0<L.length)(hh:L.getD 0 []=BK (Cv q N))(hN:ED N=AE)(q0:0<=q)(q1:q<4294967296):
 Av Ae 167 #[v] w fun e w'=>∃ u,e=Aj (AH #[O .u32 q,u,AP AE])/\IR w' 0 u N/\Ap w.heap.size w w':=by
 obtain⟨JJ,hx⟩:=GN hN;have bq:(Cv q N).length<=252:=by rw[Gh];omega
 have bk:=EK _ bq;obtain⟨ao,cap,rfl,_,hc⟩:=hs.open';obtain⟨b,off,rfl,hb,hcc⟩:=hc h0;obtain⟨u0,NQ,hb0⟩:=hcc 0 h0;rw[hh] at hb0;rw[Nat.add_zero] at NQ;obtain⟨uo,uc,rfl,_⟩:=hb0.shape;have MY:=Dm _ bq;rw[MY] at NQ hb0;have KO:=wM (J2 hb0 (Jg _ bq));rw[RQ q N JJ] at KO;have K4:=wM (fun W v (h:BSl W v (DH (Cv q N)))=>Qx h (by omega) 4 4 4 4 rfl rfl (by omega) (by omega) (by omega) q (VZ q N q0 q1).symm);have KR:=wM (fun W v (h:BSl W v (DH (Cv q N)))=>Sq h bk JJ (Qt q N JJ) (fun i hi=>Oe q N i hi (hx i hi)) (fun i hi=>⟨(hx i hi).1,by have:=(hx i hi).2;omega⟩) AE hN);have KH:=wM (fun W u (h:IR W 0 u N)=>QV h.sl JJ hx q0 q1);have HU0:=wM hb0;generalize BK (Cv q N)=HS at KO KH HU0;generalize DH (Cv q N)=HC at KO K4 KR;obtain⟨m,hm⟩:=nm L.length;rw[<- hm] at h0 |-
 have Ik:¬ (m:Int)=0:=by omega
 have hm1:((m:Int)==0)=Ay:=by simpa using Ik
 have hm2:(0:Int)<(m:Int):=by omega
 have ur:IntKind.u32.wrap q=q:=IntWalk.u32_in _ (by omega);clear hs hc hh hcc hb0 MY bk bq hx hN JJ q0 q1 hm;go_enter Tryz.func167,Tryz.ntmps167
 go_wp2_with (first
  |(go_at_call 149;(with_reducible refine KO.out.mono ?_);rintro e w2 ⟨v2,rfl,hob2,hb2⟩
    have HV2:=wM hob2.bsl;have HB2:=wM hb2)
  |(go_at_call 183;(with_reducible refine(K4.out _ _ HV2.out).mono ?_);rintro e w3 ⟨rfl,rfl⟩)
  |(go_at_call 192;(with_reducible refine(KR.out _ _ HV2.out).mono ?_);rintro e w4 ⟨v4,rfl,hv4,hb4⟩))
 have HB4:Hid (Ap w.heap.size w w4.drew):=wM (AM (HB2.out.trans (hb4.mono HB2.out.size)) 1);have HV4:Hid (IR w4.drew 0 v4 N):=wM hv4;have e0:w4.drew.cell? ⟨b,off,J⟩=I (Y uo 256 uc):=(HB4.out.cell (p:=⟨b,off,J⟩) hb).trans NQ;have M9:b<w4.drew.heap.size:=AA hb HB4.out.size;have HU4:=wM (HU0.out.below HB4.out);clear hob2 hb2 hv4 hb4 NQ HU0
 go_region_held3 (fun W=>W.cell? ⟨b,off,J⟩=I (Y uo 256 uc)) (first|exact f0|exact e0) (first
  |(go_at_call 193;(with_reducible refine(KH.out _ _ HV4.out).mono ?_);rintro e w5 ⟨v5,rfl,hob5,hb5⟩
    have f0:=(hb5.cell (p:=⟨b,off,J⟩) M9).trans e0;have K6:=wM (Ek hob5.bsl (HU4.out.below hb5));rw[Az (rfl:HS=HS)] at K6;have HB5:=wM (HB4.out.trans (hb5.mono HB4.out.size));have HV5:=wM (HV4.out.below hb5))
  |(go_at_call 152;(with_reducible refine K6.out.mono ?_);rintro e w6 ⟨rfl,rfl⟩))
 go_wp2;go_ret3;exact⟨_,rfl,HV5.out,HB5.out⟩
theorem o_{w:t}{v:Ao}{q:Int}{N:List Int}{L:List (List Int)}(hs:BBSl w v L)(h0:0<L.length)(hh:L.getD 0 []=BK (Cv q N))(hN:ED N=AE)(q0:0<=q)(q1:q<4294967296):
 Av Ae 124 #[v] w fun e w'=>e=Aj (AH #[O .u32 q,AP AE])/\Ap w.heap.size w w':=by
 have K:=wM (IT hs h0 hh hN q0 q1);clear hs h0 hh hN q0 q1;go_enter Tryz.func124,Tryz.ntmps124;go_wp2_with (go_at_call 167;(with_reducible refine K.out.mono ?_);rintro e w2 ⟨v2,rfl,hv2,hb2⟩)
 go_ret2;exact⟨rfl,hb2⟩
def IV(c:List Int)(n:Nat):List Int:=(Bu n).map fun i=>Cl c (10+2*i) 2
theorem MN(c:List Int)(n:Nat):(IV c n).length=n:=by simp[IV]
theorem NL(c:List Int)(n i:Nat)(hi:i<n):(IV c n).getD i 0=Cl c (10+2*i) 2:=by
 simp[IV,hi]
def Dv(b:List Int)(q:Int)(N:List Int):Prop:=ED N=AE/\(0<=q/\q<4294967296)/\b=BK (Cv q N)
theorem Mx{b:List Int}{q:Int}{N:List Int}(h:Dv b q N):Fx b/\Cl (b.take 252) 4 4=q/\Cl (b.take 252) 8 2=(N.length:Int)/\IV (b.take 252) N.length=N:=by
 obtain⟨hN,⟨q0,q1⟩,rfl⟩:=h;obtain⟨JJ,hx⟩:=GN hN;have hl:(Cv q N).length<=252:=by rw[Gh];omega
 rw[RQ q N JJ];refine⟨Jg _ hl,VZ q N q0 q1,Qt q N JJ,?_⟩;apply Bg (MN _ _);intro i a b;have:=NL (DH (Cv q N)) N.length i b;rw[Oe q N i b (hx i b)] at this
 simpa [a,b] using this
theorem Qm{b:List Int}{q q':Int}{N N':List Int}(h:Dv b q N)(h':Dv b q' N'):q=q'/\N=N':=by
 obtain⟨_,a1,a2,a3⟩:=Mx h;obtain⟨_,b1,b2,b3⟩:=Mx h';have e:N.length=N'.length:=by
  have:=a2.symm.trans b2;omega
 exact⟨a1.symm.trans b1,by rw[<- a3,<- b3,e]⟩
theorem ue{c:List Int}(h:Fv c)(a:Nat):0<=Cl c a 2/\Cl c a 2<=65535:=by
 have:=EL (C3 h) a 2;simp at this;omega
theorem Yq{w:t}{v:Ao}{c:List Int}(hs:BSl w v c)(hc:c.length=252)(h:37<Cl c 8 2):
 Av Ae 192 #[v] w fun e w'=>e=Aj (AH #[Y J 0 0,AP Ay])/\w=w':=by
 have K8:=wM (Qx hs (by omega) 8 2 8 2 rfl rfl (by omega) (by omega) (by omega) _ rfl);obtain⟨x,hx⟩:=nm (Cl c 8 2);rw[<- hx] at K8 h;clear hs hc hx;go_enter Tryz.func192,Tryz.ntmps192;go_wp2_with (go_at_call 183;(with_reducible refine K8.out.mono ?_);rintro e w2 ⟨rfl,rfl⟩)
 go_ret2;exact⟨rfl,rfl⟩
theorem YR{w:t}{v:Ao}{c:List Int}(hs:BSl w v c)(hc:c.length=252):
 Av Ae 192 #[v] w fun e w'=>∃ u B,e=Aj (AH #[u,AP B])/\Ap w.heap.size w w'/\
  ((B=AE/\Cl c 8 2<=37/\ED (IV c (Cl c 8 2).toNat)=AE/\IR w' 0 u (IV c (Cl c 8 2).toNat))\/
   (B=Ay/\(Cl c 8 2<=37->ED (IV c (Cl c 8 2).toNat)=Ay)/\∃ ao n cap,u=Y ao n cap)):=by
 by_cases h:Cl c 8 2<=37
 . have h0:=(ue hs.1 8).1
   obtain⟨n,hn⟩:=nm ((Cl c 8 2).toNat);rw[<- hn];have hl:=MN c n;have hbd:∀ i,i<n->0<=(IV c n).getD i 0/\(IV c n).getD i 0<=65535:=fun i hi=>by rw[NL c n i hi];exact ue hs.1 _
   refine(Sq hs hc (N:=IV c n) (by rw[hl];omega) (by rw[hl];omega) (fun i hi=>(NL c n i (by rw[hl] at hi;exact hi)).symm) (fun i hi=>hbd i (by rw[hl] at hi;exact hi)) _ rfl).mono ?_;rintro e w' ⟨u,rfl,hu,hb⟩;refine⟨u,_,rfl,hb,?_⟩;cases hf:ED (IV c n)
   . obtain⟨ao,cap,hv⟩:=hu.sl.shape
     exact AW ⟨rfl,fun _=>rfl,ao,_,cap,hv⟩
   . exact AU ⟨rfl,h,rfl,hu⟩
 . refine(Yq hs hc (by omega)).mono ?_
   rintro e w' ⟨rfl,rfl⟩;exact⟨_,_,rfl,AC _ _,AW ⟨rfl,fun h'=>absurd h' h,J,0,0,rfl⟩⟩
theorem tReadH_nil{w:t}{cap:Nat}{ao:Option Addr}:Av Ae 167 #[Y ao 0 cap] w fun e w'=>e=Aj (AH #[O .u32 0,Y J 0 0,AP Ay])/\w=w':=by
 go_enter Tryz.func167,Tryz.ntmps167;go_wp2;go_ret3;exact⟨rfl,rfl⟩
theorem VC{w:t}{v:Ao}{L:List (List Int)}(hs:BBSl w v L)(h0:0<L.length)(hh:¬ Fx (L.getD 0 [])):
 Av Ae 167 #[v] w fun e w'=>e=Aj (AH #[O .u32 0,Y J 0 0,AP Ay])/\Ap w.heap.size w w':=by
 obtain⟨ao,cap,rfl,_,hc⟩:=hs.open';obtain⟨b,off,rfl,hb,hcc⟩:=hc h0;obtain⟨u0,NQ,hb0⟩:=hcc 0 h0;rw[Nat.add_zero] at NQ;obtain⟨uo,uc,rfl,_⟩:=hb0.shape;have KO:=wM (Se hb0 hh);obtain⟨y,hy⟩:=nm ((L.getD 0 []).length);rw[<- hy] at KO NQ;obtain⟨m,hm⟩:=nm L.length;rw[<- hm] at h0 |-
 have Ik:¬ (m:Int)=0:=by omega
 have hm1:((m:Int)==0)=Ay:=by simpa using Ik
 have hm2:(0:Int)<(m:Int):=by omega
 clear hs hc hh hcc hb0 hm hy;go_enter Tryz.func167,Tryz.ntmps167;go_wp2_with (go_at_call 149;(with_reducible refine KO.out.mono ?_);rintro e w2 ⟨rfl,hb2⟩)
 go_ret3;exact⟨rfl,hb2⟩
theorem Ro{w:t}{v:Ao}{L:List (List Int)}(hs:BBSl w v L)(h0:0<L.length)(hh:Fx (L.getD 0 []))(CU:∀ q N,¬ Dv (L.getD 0 []) q N):
 Av Ae 167 #[v] w fun e w'=>e=Aj (AH #[O .u32 0,Y J 0 0,AP Ay])/\Ap w.heap.size w w':=by
 obtain⟨ao,cap,rfl,_,hc⟩:=hs.open';obtain⟨b,off,rfl,hb,hcc⟩:=hc h0;obtain⟨u0,NQ,hb0⟩:=hcc 0 h0;rw[Nat.add_zero] at NQ;obtain⟨uo,uc,rfl,_⟩:=hb0.shape;have KO:=wM (J2 hb0 hh);have hl:=MT hh;have MY:(L.getD 0 []).length=256:=hh.1;have hby:=hb0.1;rw[MY] at NQ hb0 KO;have HU0:=wM hb0;generalize L.getD 0 []=bb at KO hl CU HU0 hby;obtain⟨c,hcd⟩:=nm (bb.take 252);have Q4:Fv c:=by rw[hcd];exact Es hby 252
 rw[<- hcd] at KO hl;have hq:=EL (C3 Q4) 4 4;have q0:=hq.1;have q1:Cl c 4 4<4294967296:=by simpa using hq.2
 have K4:=wM (fun W v (h:BSl W v c)=>Qx h (by omega) 4 4 4 4 rfl rfl (by omega) (by omega) (by omega) _ rfl);have KR:=wM (fun W v (h:BSl W v c)=>YR h hl);obtain⟨q,hqd⟩:=nm (Cl c 4 4);rw[<- hqd] at q0 q1 K4;obtain⟨N,hN⟩:=nm (IV c (Cl c 8 2).toNat);rw[<- hN] at KR;have KH:=wM (fun(hf:ED N=AE) W u (h:IR W 0 u N)=>QV h.sl (GN hf).1 (GN hf).2 q0 q1);have HNE:=wM (fun(hf:ED N=AE)=>show ¬ BK (Cv q N)=bb from fun e=>CU q N ⟨hf,⟨q0,q1⟩,e.symm⟩);generalize BK (Cv q N)=HS at KH HNE;obtain⟨m,hm⟩:=nm L.length;rw[<- hm] at h0 |-
 have Ik:¬ (m:Int)=0:=by omega
 have hm1:((m:Int)==0)=Ay:=by simpa using Ik
 have hm2:(0:Int)<(m:Int):=by omega
 have ur:IntKind.u32.wrap q=q:=IntWalk.u32_in _ (by omega);clear hs hc hh hcc hb0 MY hl CU hby hcd Q4 hq hqd hN hm q0 q1;go_enter Tryz.func167,Tryz.ntmps167
 go_wp2_with (first
  |(go_at_call 149;(with_reducible refine KO.out.mono ?_);rintro e w2 ⟨v2,rfl,hob2,hb2⟩
    have HV2:=wM hob2.bsl;have HB2:=wM hb2)
  |(go_at_call 183;(with_reducible refine(K4.out _ _ HV2.out).mono ?_);rintro e w3 ⟨rfl,rfl⟩)
  |(go_at_call 192;(with_reducible refine(KR.out _ _ HV2.out).mono ?_);rintro e w4 ⟨v4,B4,rfl,hb4,Lx⟩
    have HCASE:=wM Lx;clear Lx))
 have HB4:Hid (Ap w.heap.size w w4.drew):=wM (AM (HB2.out.trans (hb4.mono HB2.out.size)) 1);have HB44:Hid (Ap w.heap.size w w4):=wM (HB2.out.trans (hb4.mono HB2.out.size));clear hob2 hb2 hb4;rcases HCASE.out with⟨rfl,_,hf,hv4⟩| ⟨rfl,_,ao4,n4,cap4,rfl⟩
 . have HF:=wM hf
   have HV4:Hid (IR w4.drew 0 v4 N):=wM hv4;have e0:w4.drew.cell? ⟨b,off,J⟩=I (Y uo 256 uc):=(HB4.out.cell (p:=⟨b,off,J⟩) hb).trans NQ;have M9:b<w4.drew.heap.size:=AA hb HB4.out.size;have HU4:=wM (HU0.out.below HB4.out);clear NQ HU0 hf hv4 HCASE HB44
   go_region_held3 (fun W=>W.cell? ⟨b,off,J⟩=I (Y uo 256 uc)) (first|exact f0|exact e0) (first
    |(go_at_call 193;(with_reducible refine(KH.out HF.out _ _ HV4.out).mono ?_);rintro e w5 ⟨v5,rfl,hob5,hb5⟩
      have f0:=(hb5.cell (p:=⟨b,off,J⟩) M9).trans e0;have K6:=wM (Ek hob5.bsl (HU4.out.below hb5));rw[AB (HNE.out HF.out)] at K6;have HB5:=wM (HB4.out.trans (hb5.mono HB4.out.size)))
    |(go_at_call 152;(with_reducible refine K6.out.mono ?_);rintro e w6 ⟨rfl,rfl⟩))
   go_wp2;go_ret3;exact⟨rfl,HB5.out⟩
 . clear HCASE HB4
   go_quiet (fail)
   go_wp2;go_ret3;exact⟨rfl,AM HB44.out nq⟩
theorem PL{w:t}{v:Ao}{L:List (List Int)}(hs:BBSl w v L):
 Av Ae 167 #[v] w fun e w'=>Ap w.heap.size w w'/\
  ((∃ q N u,0<L.length/\Dv (L.getD 0 []) q N/\e=Aj (AH #[O .u32 q,u,AP AE])/\IR w' 0 u N)\/
   ((∀ q N,¬ (0<L.length/\Dv (L.getD 0 []) q N))/\e=Aj (AH #[O .u32 0,Y J 0 0,AP Ay]))):=by
 by_cases h0:0<L.length
 . by_cases hd:∃ q N,Dv (L.getD 0 []) q N
   . obtain⟨q,N,hq⟩:=hd
     refine(IT hs h0 hq.2.2 hq.1 hq.2.1.1 hq.2.1.2).mono ?_;rintro e w' ⟨u,rfl,hu,hb⟩;exact⟨hb,AU ⟨q,N,u,h0,hq,rfl,hu⟩⟩
   . have CU:∀ q N,¬ Dv (L.getD 0 []) q N:=fun q N h=>hd ⟨q,N,h⟩
     by_cases qt:Fx (L.getD 0 [])
     . refine(Ro hs h0 qt CU).mono ?_
       rintro e w' ⟨rfl,hb⟩;exact⟨hb,AW ⟨fun q N h=>CU q N h.2,rfl⟩⟩
     . refine(VC hs h0 qt).mono ?_
       rintro e w' ⟨rfl,hb⟩;exact⟨hb,AW ⟨fun q N h=>CU q N h.2,rfl⟩⟩
 . obtain⟨ao,cap,rfl,_⟩:=hs.shape
   have e:L.length=0:=(by omega);rw[e];refine tReadH_nil.mono ?_;rintro e w' ⟨rfl,rfl⟩;exact⟨AC _ _,AW ⟨fun q N h=>absurd h.1 (by omega),rfl⟩⟩
theorem kM{w:t}{v:Ao}{L:List (List Int)}(hs:BBSl w v L):
 Av Ae 124 #[v] w fun e w'=>Ap w.heap.size w w'/\
  ((∃ q N,0<L.length/\Dv (L.getD 0 []) q N/\e=Aj (AH #[O .u32 q,AP AE]))\/
   ((∀ q N,¬ (0<L.length/\Dv (L.getD 0 []) q N))/\e=Aj (AH #[O .u32 0,AP Ay]))):=by
 by_cases h:∃ q N,0<L.length/\Dv (L.getD 0 []) q N
 . obtain⟨q,N,h0,hq⟩:=h
   refine(o_ hs h0 hq.2.2 hq.1 hq.2.1.1 hq.2.1.2).mono ?_;rintro e w' ⟨rfl,hb⟩;exact⟨hb,AU ⟨q,N,h0,hq,rfl⟩⟩
 . have CU:∀ q N,¬ (0<L.length/\Dv (L.getD 0 []) q N):=fun q N hh=>h ⟨q,N,hh⟩
   have K:Hid (Av Ae 167 #[v] w fun e w'=>e=Aj (AH #[O .u32 0,Y J 0 0,AP Ay])/\Ap w.heap.size w w'):=wM ((PL hs).mono fun e w' ⟨hb,hc⟩=>by
    rcases hc with⟨q,N,u,h0,hq,_⟩| ⟨_,he⟩
    . exact absurd ⟨h0,hq⟩ (CU q N)
    . exact⟨he,hb⟩)
   have HNO:=wM CU;clear hs h CU;go_enter Tryz.func124,Tryz.ntmps124;go_wp2_with (go_at_call 167;(with_reducible refine K.out.mono ?_);rintro e w2 ⟨rfl,hb2⟩)
   go_ret2;exact⟨hb2,AW ⟨HNO.out,rfl⟩⟩
theorem TQ(w:t)(b off n cap l h:Nat)(h1:l<=h)(h2:h<=cap)(h3:l<cap):
 (Instr.sliceAt 95 (Y (I ⟨b,off,J⟩) n cap) (I (O Ad (l:Int))) (I (O Ad (h:Int))) J).run Ae w=.ok (Y (I ⟨b,off+l,J⟩) (h-l) (cap-l)) w:=by
 obtain⟨i,g2,g3,g4,g5⟩:=Bf QE;have hne:cap≠l:=by omega
 have ee:Ae.elem 95=77:=by kernel_rfl
 have hs:(sizeOf 77).run Ae w=.ok 1 w:=by simp[sizeOf,typeInfo,g2,g4]
 rw[run_sliceAt_slice w 95 _ _ _ _ (by rw[ee];exact Tryz.underlying95),run_slice_lh w 95 _ n cap (by rw[ee];exact Tryz.underlying95) Ad Ad (l:Int) (h:Int) (by omega) (by omega) (by omega),ee,hs];simp[sliced,hne,BY]
theorem Jv{w:t}{ops:Array BE}{rest:List BE}{o:BE}{a:Act}{Q:Exit->Act->t->Prop}(Du:o.guard=J)(x lo hi:Operand)(ho:o.op=.slice 95 x (I lo) (I hi) J)
 (b off n cap:Nat) (hx:a.eval x=Y (I ⟨b,off,J⟩) n cap) (L H:Int) (hl:a.eval lo=O Ad L) (hh:a.eval hi=O Ad H) (l h m:Nat) (hm:h-l=m) (hL:L=l) (hH:H=h) (h1:l<=h) (h2:h<=cap) (h3:l<cap)
 (hK:Cf Ae ops Q rest (a.put o.dst (Y (I ⟨b,off+l,J⟩) m (cap-l))) w):Cf Ae ops Q (o :: rest) a w:=by
 subst hL hH hm;refine CA Du fun K hK'=>?_
 unfold BE.wp execOp;simp only[ho,hx,hl,hh,Option.map_some,Option.map_none,TQ w b off n cap l h h1 h2 h3,Dg,Sem.run_pure,Result.andThen_ok];exact hK' _ _ hK
theorem BBSl.mid{w:t}{b off cap:Nat}{L:List (List Int)}(h:BBSl w (Y (I ⟨b,off,J⟩) L.length cap) L)(lo m:Nat)(hm:lo+m<=L.length)(M:List (List Int))(hM:(L.drop lo).take m=M):BBSl w (Y (I ⟨b,off+lo,J⟩) m (cap-lo)) M:=by
 have hlen:((L.drop lo).take m).length=m:=by simp;omega
 rw[hM] at hlen;rcases h with⟨hv,_⟩| ⟨a',c',hv,Cx,hc⟩
 . simp at hv
 . obtain⟨rfl,rfl⟩:(⟨b,off,J⟩:Addr)=a'/\cap=c':=⟨A0 (AY hv).1,(AY hv).2.2⟩
   refine AW ⟨⟨b,off+lo,J⟩,cap-lo,by rw[hlen],by omega,fun j hj=>?_⟩;rw[hlen] at hj;obtain⟨h1,h2,u,h3,h4⟩:=hc (lo+j) (by omega);refine⟨h1,rfl,u,?_,?_⟩
   . show w.cell? ⟨b,off+lo+j,J⟩=_
     rw[Dt];exact h3
   . have e:M.getD j []=L.getD (lo+j) []:=by
      rw[<- hM];simp[hj]
     rw[e];exact h4
theorem EG:(Ae.info? 215).map (·.size)=I 3:=by kernel_rfl
theorem BD{ops:Array BE}{rest:List BE}{o:BE}{a:Act}{w:t}{Q:Exit->Act->t->Prop}(Du:o.guard=J)(ty:Cg)(hi:(Ae.info? ty).map (·.size)=I 3)(x y:Operand)(ho:o.op=.store ty x y)
 (g:Nat) (hx:a.eval x=Al (I ⟨g,0,J⟩)) (p q r p' q' r':Ao) (hy:a.eval y=BN #[p,q,r]) (hp:p.oneCell'=AE) (hq:q.oneCell'=AE) (hr:r.oneCell'=AE) (T:Cg) (hg:w.heap[g]? =I (Am #[p',q',r'] T (0,0)))
 (h:∀ w',Wrote w w' g->w'.heap[g]? =I (Am #[p,q,r] T (0,0))->Cf Ae ops Q rest (a.put o.dst undef) w'):Cf Ae ops Q (o :: rest) a w:=
 C0 Du ty x y ho g #[p,q,r] hx hy T _ hg hi rfl (by simp[hp,hq,hr]) (h _ (Wrote.setRow _ _ _) (CC _ _ _ _ _ _ hg))
theorem DI{fn:Func}{p u:Tmp}{ty:Cg}{fs}(h:fn.results=#[.cell p ty,.tmp u])(hu:Ae.underlying ty=I (.struct fs))(hi:(Ae.info? ty).map (·.size)=I 3)
 (tmps:Array Ao) (w:t) (g:Nat) (T:Cg) (a b c x:Ao) (hp:tmps.getD p undef=Al (I ⟨g,0,J⟩)) (hg:w.heap[g]? =I (Am #[a,b,c] T (0,0))) (hx:tmps.getD u undef=x):
 (results fn tmps).run Ae w=.ok (AH #[BN #[a,b,c],x]) w:=by
 rw[results_cell_tmp h,hp,hx];simp only[asAddr,Sem.run_pure,Result.andThen_ok];rw[run_loadVar_row w g T ty _ (0,0) _ hg hu rfl (by rw[hi];rfl)];rfl
theorem JZ{w w1:t}{g:Nat}{o:Obj}(h:w.heap[g]? =I o)(hb:Ap w.heap.size w w1):w1.heap[g]? =I o:=(hb.block _ (Ah.1 h).1).trans h
theorem IR.wrote{w w':t}{B g:Nat}{v:Ao}{l:List Int}(h:IR w B v l)(hw:Wrote w w' g){cur:Array Ao}{T:Cg}(hg:w.heap[g]? =I (Am cur T (0,0)))(hT:T≠3):IR w' B v l:=by
 refine⟨h.1,?_⟩;rcases h.2 with h| ⟨g',cap,cur',hv,hB,hh,r⟩
 . exact AU h
 . refine AW ⟨g',cap,cur',hv,hB,?_,r⟩
   rw[hw.2.2.2.2 g' (fun e=>by
    subst e;rw[hg] at hh
    injection hh with hh
    injection hh with _ h4
    exact hT h4)]
   exact hh
theorem BElt.wrote{w w':t}{B g:Nat}{x:Ao}{l:List Int}(h:BElt w B x l)(hw:Wrote w w' g)(hB:B<=g){cur:Array Ao}{T:Cg}(hg:w.heap[g]? =I (Am cur T (0,0)))(hT:T≠5):BElt w' B x l:=by
 by_cases h0:0<l.length
 . obtain⟨b,off,cap,rfl,hb,hor⟩:=h.2 h0
   have hne:b≠g:=fun e=>by
    subst e;rcases hor with h3| ⟨cur',h3⟩
    . omega
    . rw[h3] at hg
      injection hg with hg
      injection hg with _ h4
      exact hT h4.symm
   have mg:=hw.2.2.2.2 b hne;refine⟨⟨h.1.1,?_⟩,fun _=>⟨b,off,cap,rfl,by rw[hw.2.2.2.1];exact hb,hor.elim AU fun⟨cur,hc⟩=>AW ⟨cur,by rw[mg];exact hc⟩⟩⟩;rcases h.1.2 with⟨hv,_⟩| ⟨a,cap',hv,Cx,hc⟩
   . simp at hv
   . obtain⟨rfl,rfl⟩:a=⟨b,off,J⟩/\cap=cap':=⟨(A0 (AY hv).1).symm,(AY hv).2.2⟩
     refine AW ⟨_,cap,rfl,Cx,fun j hj=>?_⟩;obtain⟨h1,h2,h3⟩:=hc j hj;exact⟨by rw[hw.2.2.2.1];exact h1,rfl,by rw[A5 (a:=⟨b,off+j,J⟩) mg];exact h3⟩
 . obtain rfl:l=[]:=AO (by omega)
   refine⟨⟨EY,?_⟩,fun h=>absurd h h0⟩;rcases h.1.2 with h| ⟨a,cap,hv,Cx,_⟩
   . exact AU h
   . exact AW ⟨a,cap,hv,Cx,fun j hj=>absurd hj (A9 _)⟩
theorem BBR.wrote{w w':t}{B g:Nat}{v:Ao}{L:List (List Int)}(h:BBR w B v L)(hw:Wrote w w' g)(hB:B<=g){cur:Array Ao}{T:Cg}(hg:w.heap[g]? =I (Am cur T (0,0)))(hT:T≠5)(tj:T≠77):BBR w' B v L:=by
 obtain⟨vs,hl,hr,ho⟩:=h;refine⟨vs,hl,fun j hj=>(hr j hj).wrote hw hB hg hT,ho.1,?_⟩;rcases ho.2 with h| ⟨g',cap,cur',hv,hB',hh,r⟩
 . exact AU h
 . refine AW ⟨g',cap,cur',hv,hB',?_,r⟩
   rw[hw.2.2.2.2 g' (fun e=>by
    subst e;rw[hg] at hh
    injection hh with hh
    injection hh with _ h4
    exact tj h4)]
   exact hh
theorem UU{w:t}{v:Ao}{q:Int}{N:List Int}{D L:List (List Int)}(hs:BBSl w v L)(hL:L.length<=1000000)(hlen:N.length+2<=L.length)(hh:L.getD 0 []=BK (Cv q N))(hz:L.getD (L.length-1) []=BK (DX q))
 (hD:(L.drop 1).take N.length=D) (hw:H3 D=AE) (hN:ED N=AE) (q0:0<=q) (q1:q<4294967296):
 Av Ae 160 #[v] w fun e w'=>∃ vN vD,e=Aj (AH #[BN #[O .u32 q,vN,vD],AP AE])/\IR w' 0 vN N/\BBR w' 0 vD D/\Ap w.heap.size w w':=by
 have hDl:D.length=N.length:=by rw[<- hD];simp;omega
 have JJ:=(GN hN).1;have hbx:=As w (Am #[O .u32 0,Y J 0 0,Y J 0 0] 215);have EN:=Ar w (Am #[O .u32 0,Y J 0 0,Y J 0 0] 215);have KR:=wM (fun W (hb:Ap w.heap.size w W)=>IT (hs.below hb) (by omega) hh hN q0 q1);have KE:=wM (fun W=>S6 W q0 q1);obtain⟨ao,cap,rfl,Cx,hc⟩:=hs.open';obtain⟨b,off,rfl,hb,hcc⟩:=hc (by omega);obtain⟨u0,NQ,hb0⟩:=hcc (L.length-1) (by omega);rw[hz] at hb0;have MY:=Dm (DX q) (by rw[Kf];omega);obtain⟨uo,uc,rfl,_⟩:=hb0.shape;rw[MY] at NQ hb0;have hmid:=hs.mid 1 N.length (by omega) D hD;have KW:=wM (fun W (hb:Ap w.heap.size w W)=>Ng (hmid.below hb) (by omega));rw[hw] at KW;have KC:=wM (fun W (hb:Ap w.heap.size w W)=>QJ (hmid.below hb) (by omega) (fun j=>by
  by_cases hj:j<D.length
  . rw[(ND D).1 hw j hj];omega
  . rw[An,A2 (by omega)];exact AT _) 0 (AT _))
 have HU0:=wM hb0;generalize BK (DX q)=EB at KE HU0;have HNS:=wM (fun W vN (h:IR W 0 vN N)=>h.isc.2);obtain⟨n,hn⟩:=nm N.length;obtain⟨m,hm⟩:=nm L.length;rw[<- hm] at hlen Cx NQ hL KR |-
 rw[<- hn] at hlen JJ KW KC hDl HNS;have HDL:=wM hDl;have ew:Ad.wrap ((m:Int)-1)=(m:Int)-1:=Bq _ (by omega);have ew2:Ad.wrap ((n:Int)+2)=(n:Int)+2:=Bq _ (by omega);have e1:(0:Int)<=(m:Int)-1:=by omega
 have e2:((m:Int)-1).toNat=m-1:=by omega
 have e3:(m:Int)-1<(m:Int):=by omega
 have e4:¬ (m:Int)<(n:Int)+2:=by omega
 have e5:decide ((m:Int)<(n:Int)+2)=Ay:=AB e4;have e6:m-1<m:=by omega
 have e7:(1:Int)<=(m:Int):=by omega
 have e8:1<=m:=by omega
 have e9:0<m:=by omega
 have e10:(0:Int)<(m:Int):=by omega
 have HE1:Hid (1+n-1=n):=wM (by omega);have HE2:Hid ((1:Int)+(n:Int)=((1+n:Nat):Int)):=wM (by push_cast;rfl);have HE3:Hid (1<=1+n/\1+n<=cap/\1<cap):=wM (by omega);clear hs hh hz hD hw hN q0 q1 hc hcc hb0 MY hmid hn hm hDl JJ;go_enter Tryz.func160,Tryz.ntmps160;go_upto_region 1 with(fail)
 have Ou:w.heap.size<(w.alloc (Am #[O .u32 0,Y J 0 0,Y J 0 0] 215)).heap.size:=by simp
 generalize w.alloc (Am #[O .u32 0,Y J 0 0,Y J 0 0] 215)=w1 at hbx EN Ou |-
 go_wp2_with (go_at_call 167;(with_reducible refine(KR.out _ hbx).mono ?_);rintro e w2 ⟨v2,rfl,hv2,hb2⟩
              obtain⟨no,nc,rfl,_⟩:=HNS.out _ _ hv2)
 have HB2:Hid (Ap w1.heap.size w1 w2.drew):=wM (AM hb2 1);have HV2:Hid (IR w2.drew 0 (Y no n nc) N):=wM hv2;have HBX:=wM hbx;have HNX:=wM EN;have e0:w2.drew.cell? ⟨b,off+(m-1),J⟩=I (Y uo 256 uc):=((hbx.trans (HB2.out.mono hbx.size)).cell (p:=⟨b,off+(m-1),J⟩) hb).trans NQ;have HU2:=wM (HU0.out.below (hbx.trans (HB2.out.mono hbx.size)));have hz2:b<w2.drew.heap.size:=AA hb (hbx.trans (HB2.out.mono hbx.size)).size;clear hv2 hb2 hbx EN NQ hb HU0
 go_region_held3 (fun W=>W.cell? ⟨b,off+(m-1),J⟩=I (Y uo 256 uc)) (first|exact f0|exact e0) (first
  |(go_at_call 188;(with_reducible refine(KE.out _).mono ?_);rintro e w5 ⟨v5,rfl,hob5,hb5⟩
    have f0:=(hb5.cell (p:=⟨b,off+(m-1),J⟩) hz2).trans e0;have K6:=wM (Ek (HU2.out.below hb5) hob5.bsl);rw[Az (rfl:EB=EB)] at K6;have HB5:=wM (HB2.out.trans (hb5.mono HB2.out.size));have HV5:=wM (HV2.out.below hb5);clear hob5)
  |(go_at_call 152;(with_reducible refine K6.out.mono ?_);rintro e w6 ⟨rfl,rfl⟩))
 have HB05:=wM (HBX.out.trans (HB5.out.mono HBX.out.size));have K7:=wM (KW.out _ HB05.out);have K8:=wM (KC.out _ HB05.out);clear ew ew2 e1 e2 e3 e4 e5 e6 e7 e8 e9 e10 e0 f0 hb5 KW KC KE KR K6
 go_wp2_with (first
  |(with_reducible refine Jv rfl (.tmp 37) (.const (O Ad 1)) (.tmp 40) rfl b off m cap rfl 1 (1+(n:Int)) rfl rfl 1 (1+n) n HE1.out rfl HE2.out HE3.out.1 HE3.out.2.1 HE3.out.2.2 ?_)
  |(go_at_call 189;(with_reducible refine K7.out.mono ?_);rintro e w7 ⟨rfl,rfl⟩)
  |(go_at_call 190;(with_reducible refine K8.out.mono ?_);rintro e w8 ⟨v8,rfl,hv8,hb8⟩
    obtain⟨co,cc,rfl,_⟩:=hv8.sl.shape;rw[HDL.out] at hv8 |-
    have HV8:=wM hv8;have HN8:=wM (HV5.out.below hb8);have gE:=JZ HNX.out (HB5.out.trans (hb8.mono HB5.out.size));have HB8:=wM (HB05.out.trans (hb8.mono HB05.out.size));clear hv8)
  |(with_reducible refine BD rfl 215 EG (.tmp 2) (.tmp 50) rfl w.heap.size rfl _ _ _ _ _ _ rfl rfl rfl rfl _ gE ?_;intro w9 hw9 hr9))
 refine AS (DI rfl Tryz.underlying215 EG _ _ w.heap.size _ _ _ _ _ rfl hr9 rfl) rfl ⟨_,_,rfl,?_,?_,HB8.out.trans (hw9.below (At _))⟩
 . exact HN8.out.wrote hw9 gE (by decide)
 . exact HV8.out.wrote hw9 (AT _) gE (by decide) (by decide)
def Io(L:List (List Int))(q:Int)(N:List Int)(D:List (List Int)):Prop:=
 (0<L.length/\Dv (L.getD 0 []) q N)/\N.length+2<=L.length/\L.getD (L.length-1) []=BK (DX q)/\(L.drop 1).take N.length=D/\H3 D=AE
def j3(w:t)(e:Ending)(w':t):Prop:=e=Aj (AH #[BN #[O .u32 0,Y J 0 0,Y J 0 0],AP Ay])/\Ap w.heap.size w w'
theorem Ts{w:t}{v:Ao}{L:List (List Int)}(hs:BBSl w v L)(CU:∀ q N,¬ (0<L.length/\Dv (L.getD 0 []) q N)):Av Ae 160 #[v] w (j3 w):=by
 have hbx:=As w (Am #[O .u32 0,Y J 0 0,Y J 0 0] 215);have EN:=Ar w (Am #[O .u32 0,Y J 0 0,Y J 0 0] 215);have KR:Hid (∀ W,Ap w.heap.size w W->Av Ae 167 #[v] W fun e w'=>e=Aj (AH #[O .u32 0,Y J 0 0,AP Ay])/\Ap W.heap.size W w'):=wM fun W hb=>(PL (hs.below hb)).mono fun e w' ⟨hb,hc⟩=>by
  rcases hc with⟨q,N,u,h0,hq,_⟩| ⟨_,he⟩
  . exact absurd ⟨h0,hq⟩ (CU q N)
  . exact⟨he,hb⟩
 obtain⟨ao,cap,rfl,_⟩:=hs.shape;generalize L.length=m at KR |-
 clear hs CU;go_enter Tryz.func160,Tryz.ntmps160;go_upto_region 1 with(fail)
 generalize w.alloc (Am #[O .u32 0,Y J 0 0,Y J 0 0] 215)=w1 at hbx EN |-
 have HBX:=wM hbx;have HNX:=wM EN;clear EN;go_wp2_with (go_at_call 167;(with_reducible refine(KR.out _ hbx).mono ?_);rintro e w2 ⟨rfl,hb2⟩)
 have HB2:=wM hb2;clear hb2 hbx;go_quiet (fail)
 have hr2:(w2.drewN nq).heap[w.heap.size]? =I (Am #[O .u32 0,Y J 0 0,Y J 0 0] 215 (0,0)):=JZ HNX.out (AM HB2.out nq);go_wp2_with (with_reducible refine BD rfl 215 EG (.tmp 2) (.tmp 36) rfl w.heap.size rfl _ _ _ _ _ _ rfl rfl rfl rfl _ hr2 ?_;intro w9 hw9 hr9)
 refine AS (DI rfl Tryz.underlying215 EG _ _ w.heap.size _ _ _ _ _ rfl hr9 rfl) rfl ⟨rfl,?_⟩;exact(AM (HBX.out.trans (HB2.out.mono HBX.out.size)) nq).trans (hw9.below (At _))
theorem Rh{w:t}{v:Ao}{q:Int}{N:List Int}{L:List (List Int)}(hs:BBSl w v L)(h0:0<L.length)(hq:Dv (L.getD 0 []) q N)(hlen:¬ N.length+2<=L.length):Av Ae 160 #[v] w (j3 w):=by
 have hbx:=As w (Am #[O .u32 0,Y J 0 0,Y J 0 0] 215);have EN:=Ar w (Am #[O .u32 0,Y J 0 0,Y J 0 0] 215);have KR:=wM (fun W (hb:Ap w.heap.size w W)=>IT (hs.below hb) h0 hq.2.2 hq.1 hq.2.1.1 hq.2.1.2);have JJ:=(GN hq.1).1;have HNS:=wM (fun W vN (h:IR W 0 vN N)=>h.isc.2);obtain⟨ao,cap,rfl,_⟩:=hs.shape;obtain⟨n,hn⟩:=nm N.length;obtain⟨m,hm⟩:=nm L.length;rw[<- hm] at hlen KR |-
 rw[<- hn] at hlen JJ HNS;have e1:(m:Int)<(n:Int)+2:=by omega
 have e2:decide ((m:Int)<(n:Int)+2)=AE:=Az e1;have ew2:Ad.wrap ((n:Int)+2)=(n:Int)+2:=Bq _ (by omega);clear hs h0 hq hn hm;go_enter Tryz.func160,Tryz.ntmps160;go_upto_region 1 with(fail)
 generalize w.alloc (Am #[O .u32 0,Y J 0 0,Y J 0 0] 215)=w1 at hbx EN |-
 have HBX:=wM hbx;have HNX:=wM EN;clear EN
 go_wp2_with (go_at_call 167;(with_reducible refine(KR.out _ hbx).mono ?_);rintro e w2 ⟨v2,rfl,hv2,hb2⟩
              obtain⟨no,nc,rfl,_⟩:=HNS.out _ _ hv2)
 have HB2:=wM hb2;clear hb2 hbx hv2;go_quiet (fail)
 have hr2:(w2.drewN nq).heap[w.heap.size]? =I (Am #[O .u32 0,Y J 0 0,Y J 0 0] 215 (0,0)):=JZ HNX.out (AM HB2.out nq);go_wp2_with (with_reducible refine BD rfl 215 EG (.tmp 2) (.tmp 36) rfl w.heap.size rfl _ _ _ _ _ _ rfl rfl rfl rfl _ hr2 ?_;intro w9 hw9 hr9)
 refine AS (DI rfl Tryz.underlying215 EG _ _ w.heap.size _ _ _ _ _ rfl hr9 rfl) rfl ⟨rfl,?_⟩;exact(AM (HBX.out.trans (HB2.out.mono HBX.out.size)) nq).trans (hw9.below (At _))
theorem L8{w:t}{v:Ao}{q:Int}{N:List Int}{L:List (List Int)}(hs:BBSl w v L)(hL:L.length<=1000000)(hq:Dv (L.getD 0 []) q N)(hlen:N.length+2<=L.length)
 (lK:L.getD (L.length-1) []≠BK (DX q)\/L.getD (L.length-1) []=BK (DX q)/\H3 ((L.drop 1).take N.length)=Ay):Av Ae 160 #[v] w (j3 w):=by
 have JJ:=(GN hq.1).1;have hbx:=As w (Am #[O .u32 0,Y J 0 0,Y J 0 0] 215);have EN:=Ar w (Am #[O .u32 0,Y J 0 0,Y J 0 0] 215);have KR:=wM (fun W (hb:Ap w.heap.size w W)=>IT (hs.below hb) (by omega) hq.2.2 hq.1 hq.2.1.1 hq.2.1.2);have KE:=wM (fun W=>S6 W hq.2.1.1 hq.2.1.2);obtain⟨ao,cap,rfl,Cx,hc⟩:=hs.open';obtain⟨b,off,rfl,hb,hcc⟩:=hc (by omega);obtain⟨u0,NQ,hb0⟩:=hcc (L.length-1) (by omega);obtain⟨uo,uc,rfl,_⟩:=hb0.shape;have hmid:=hs.mid 1 N.length (by omega) _ rfl;have bh:((L.drop 1).take N.length).length<=1000000:=by simp;omega
 have KW:=wM (fun W (hb:Ap w.heap.size w W)=>Ng (hmid.below hb) bh);have HU0:=wM hb0;have HNS:=wM (fun W vN (h:IR W 0 vN N)=>h.isc.2);generalize BK (DX q)=EB at KE lK;obtain⟨LB,hLB⟩:=nm (L.getD (L.length-1) []);rw[<- hLB] at HU0 lK NQ;obtain⟨y,hy⟩:=nm LB.length;rw[<- hy] at NQ HU0;obtain⟨WB,hWB⟩:=nm (H3 ((L.drop 1).take N.length));rw[<- hWB] at KW lK;obtain⟨n,hn⟩:=nm N.length;obtain⟨m,hm⟩:=nm L.length;rw[<- hm] at hlen Cx NQ hL KR |-
 rw[<- hn] at hlen JJ KW HNS;have ew:Ad.wrap ((m:Int)-1)=(m:Int)-1:=Bq _ (by omega);have ew2:Ad.wrap ((n:Int)+2)=(n:Int)+2:=Bq _ (by omega);have e1:(0:Int)<=(m:Int)-1:=by omega
 have e2:((m:Int)-1).toNat=m-1:=by omega
 have e3:(m:Int)-1<(m:Int):=by omega
 have e4:¬ (m:Int)<(n:Int)+2:=by omega
 have e5:decide ((m:Int)<(n:Int)+2)=Ay:=AB e4;have e6:m-1<m:=by omega
 have e7:(1:Int)<=(m:Int):=by omega
 have e8:1<=m:=by omega
 have e9:0<m:=by omega
 have e10:(0:Int)<(m:Int):=by omega
 have HE1:Hid (1+n-1=n):=wM (by omega);have HE2:Hid ((1:Int)+(n:Int)=((1+n:Nat):Int)):=wM (by push_cast;rfl);have HE3:Hid (1<=1+n/\1+n<=cap/\1<cap):=wM (by omega);have HBAD:=wM lK;clear hs hq hc hcc hb0 hmid hn hm JJ bh hLB hWB lK hy;go_enter Tryz.func160,Tryz.ntmps160;go_upto_region 1 with(fail)
 generalize w.alloc (Am #[O .u32 0,Y J 0 0,Y J 0 0] 215)=w1 at hbx EN |-
 go_wp2_with (go_at_call 167;(with_reducible refine(KR.out _ hbx).mono ?_);rintro e w2 ⟨v2,rfl,hv2,hb2⟩
              obtain⟨no,nc,rfl,_⟩:=HNS.out _ _ hv2)
 have HB2:Hid (Ap w1.heap.size w1 w2.drew):=wM (AM hb2 1);have HBX:=wM hbx;have HNX:=wM EN;have e0:w2.drew.cell? ⟨b,off+(m-1),J⟩=I (Y uo y uc):=((hbx.trans (HB2.out.mono hbx.size)).cell (p:=⟨b,off+(m-1),J⟩) hb).trans NQ;have HU2:=wM (HU0.out.below (hbx.trans (HB2.out.mono hbx.size)));have hz2:b<w2.drew.heap.size:=AA hb (hbx.trans (HB2.out.mono hbx.size)).size;clear hv2 hb2 hbx EN NQ hb HU0;rcases HBAD.out with hne| ⟨Rq,hwh⟩
 . have HNE:=wM hne
   clear hne HBAD
   go_region_held3 (fun W=>W.cell? ⟨b,off+(m-1),J⟩=I (Y uo y uc)) (first|exact f0|exact e0) (first
    |(go_at_call 188;(with_reducible refine(KE.out _).mono ?_);rintro e w5 ⟨v5,rfl,hob5,hb5⟩
      have f0:=(hb5.cell (p:=⟨b,off+(m-1),J⟩) hz2).trans e0;have K6:=wM (Ek (HU2.out.below hb5) hob5.bsl);rw[AB HNE.out] at K6;have HB5:=wM (HB2.out.trans (hb5.mono HB2.out.size));clear hob5)
    |(go_at_call 152;(with_reducible refine K6.out.mono ?_);rintro e w6 ⟨rfl,rfl⟩))
   have Db:=JZ HNX.out HB5.out;clear ew ew2 e1 e2 e3 e4 e5 e6 e7 e8 e9 e10 e0 f0 hb5 KW KE KR K6;go_wp2_with (with_reducible refine BD rfl 215 EG (.tmp 2) (.tmp 36) rfl w.heap.size rfl _ _ _ _ _ _ rfl rfl rfl rfl _ Db ?_;intro w9 hw9 hr9)
   refine AS (DI rfl Tryz.underlying215 EG _ _ w.heap.size _ _ _ _ _ rfl hr9 rfl) rfl ⟨rfl,?_⟩;exact(HBX.out.trans (HB5.out.mono HBX.out.size)).trans (hw9.below (At _))
 . subst Rq hwh
   clear HBAD
   go_region_held3 (fun W=>W.cell? ⟨b,off+(m-1),J⟩=I (Y uo y uc)) (first|exact f0|exact e0) (first
    |(go_at_call 188;(with_reducible refine(KE.out _).mono ?_);rintro e w5 ⟨v5,rfl,hob5,hb5⟩
      have f0:=(hb5.cell (p:=⟨b,off+(m-1),J⟩) hz2).trans e0;have K6:=wM (Ek (HU2.out.below hb5) hob5.bsl);rw[Az (rfl:LB=LB)] at K6;have HB5:=wM (HB2.out.trans (hb5.mono HB2.out.size));clear hob5)
    |(go_at_call 152;(with_reducible refine K6.out.mono ?_);rintro e w6 ⟨rfl,rfl⟩))
   have HB05:=wM (HBX.out.trans (HB5.out.mono HBX.out.size));have K7:=wM (KW.out _ HB05.out);have Db:=JZ HNX.out HB5.out;clear ew ew2 e1 e2 e3 e4 e5 e6 e7 e8 e9 e10 e0 f0 hb5 KW KE KR K6
   go_wp2_with (first
    |(with_reducible refine Jv rfl (.tmp 37) (.const (O Ad 1)) (.tmp 40) rfl b off m cap rfl 1 (1+(n:Int)) rfl rfl 1 (1+n) n HE1.out rfl HE2.out HE3.out.1 HE3.out.2.1 HE3.out.2.2 ?_)
    |(go_at_call 189;(with_reducible refine K7.out.mono ?_);rintro e w7 ⟨rfl,rfl⟩)
    |(with_reducible refine BD rfl 215 EG (.tmp 2) (.tmp 45) rfl w.heap.size rfl _ _ _ _ _ _ rfl rfl rfl rfl _ Db ?_;intro w9 hw9 hr9))
   refine AS (DI rfl Tryz.underlying215 EG _ _ w.heap.size _ _ _ _ _ rfl hr9 rfl) rfl ⟨rfl,?_⟩;exact HB05.out.trans (hw9.below (At _))
theorem Kd{w:t}{v:Ao}{L:List (List Int)}(hs:BBSl w v L)(hL:L.length<=1000000):
 Av Ae 160 #[v] w fun e w'=>Ap w.heap.size w w'/\
  ((∃ q N D vN vD,Io L q N D/\e=Aj (AH #[BN #[O .u32 q,vN,vD],AP AE])/\IR w' 0 vN N/\BBR w' 0 vD D)\/
   ((∀ q N D,¬ Io L q N D)/\e=Aj (AH #[BN #[O .u32 0,Y J 0 0,Y J 0 0],AP Ay]))):=by
 by_cases hd:∃ q N,0<L.length/\Dv (L.getD 0 []) q N
 . obtain⟨q,N,h0,hq⟩:=hd
   have one:∀ q' N' D,Io L q' N' D->q'=q/\N'=N:=fun q' N' D h=>Qm h.1.2 hq
   by_cases hlen:N.length+2<=L.length
   . by_cases hz:L.getD (L.length-1) []=BK (DX q)
     . cases hw:H3 ((L.drop 1).take N.length)
       . refine(L8 hs hL hq hlen (AW ⟨hz,hw⟩)).mono ?_
         rintro e w' ⟨rfl,hb⟩;refine⟨hb,AW ⟨fun q' N' D h=>?_,rfl⟩⟩;obtain⟨rfl,rfl⟩:=one _ _ _ h;obtain⟨_,_,_,rfl,h5⟩:=h;rw[hw] at h5;cases h5
       . refine(UU hs hL hlen hq.2.2 hz rfl hw hq.1 hq.2.1.1 hq.2.1.2).mono ?_
         rintro e w' ⟨vN,vD,rfl,h1,h2,hb⟩;exact⟨hb,AU ⟨q,N,_,vN,vD,⟨⟨h0,hq⟩,hlen,hz,rfl,hw⟩,rfl,h1,h2⟩⟩
     . refine(L8 hs hL hq hlen (AU hz)).mono ?_
       rintro e w' ⟨rfl,hb⟩;refine⟨hb,AW ⟨fun q' N' D h=>?_,rfl⟩⟩;obtain⟨rfl,rfl⟩:=one _ _ _ h;exact hz h.2.2.1
   . refine(Rh hs h0 hq hlen).mono ?_
     rintro e w' ⟨rfl,hb⟩;refine⟨hb,AW ⟨fun q' N' D h=>?_,rfl⟩⟩;obtain⟨rfl,rfl⟩:=one _ _ _ h;exact hlen h.2.1
 . have CU:∀ q N,¬ (0<L.length/\Dv (L.getD 0 []) q N):=fun q N h=>hd ⟨q,N,h⟩
   refine(Ts hs CU).mono ?_;rintro e w' ⟨rfl,hb⟩;exact⟨hb,AW ⟨fun q N D h=>CU q N h.1,rfl⟩⟩
inductive PA where
 |w (n:Nat) (l:List Int)
 |f
def PA.run(s:DS):PA->DS
 |.w n l=>s.write n l
 |.f=>s.flush
def BC:List PA->DS->Int × DS
 |[],s=>(0,s)
 |a :: A,s=>if s.ok=AE then BC A (a.run s) else (2,s.pay)
def PA.fu(x:List (List Int) × List (Nat × List Int)):PA->List (List Int) × List (Nat × List Int)
 |.w n l=>(x.1,x.2 ++ [(n,l)])
 |.f=>(Cb x.2 x.1,[])
def FZ(A:List PA)(x:List (List Int) × List (Nat × List Int)):List (List Int) × List (Nat × List Int):=A.foldl PA.fu x
def DS.fuP(s:DS):List (List Int) × List (Nat × List Int):=(s.F,s.U)
theorem Cn(A B:List PA)(x:List (List Int) × List (Nat × List Int)):FZ (A ++ B) x=FZ B (FZ A x):=List.foldl_append
theorem PA.run_fu(s:DS)(a:PA):(a.run s).fuP=a.fu s.fuP:=by cases a <;> rfl
theorem H7:∀ (A:List PA) (s:DS),∃ k,k<=A.length/\(BC A s).2.fuP=FZ (A.take k) s.fuP/\((BC A s).1=0/\k=A.length\/(BC A s).1=2)
 |[],s=>⟨0,At _,rfl,AU ⟨rfl,rfl⟩⟩
 |a :: A,s=>by
  unfold BC;by_cases h:s.ok=AE
  . rw[Au h]
    obtain⟨k,hk,h1,h2⟩:=H7 A (a.run s);refine⟨k+1,by simp;omega,?_,?_⟩
    . rw[h1,PA.run_fu];rfl
    . rcases h2 with⟨h2,h3⟩|h2
      . exact AU ⟨h2,by simp[h3]⟩
      . exact AW h2
  . rw[Ax h]
    exact⟨0,AT _,rfl,AW rfl⟩
theorem Lh:∀ (A:List PA) (s:DS),s.fu=Ay->s.dn=Ay->(BC A s).1=0/\(BC A s).2.fuP=FZ A s.fuP/\(BC A s).2.fu=Ay/\(BC A s).2.dn=Ay/\(BC A s).2.le=s.le
 |[],s,h1,h2=>⟨rfl,rfl,h1,h2,rfl⟩
 |a :: A,s,h1,h2=>by
  have hok:s.ok=AE:=by unfold DS.ok mb;rw[h1,h2];rfl
  unfold BC;rw[Au hok];have f1:(a.run s).fu=Ay:=by cases a <;> exact h1
  have f2:(a.run s).dn=Ay:=by
   have:WZ s.fu s.le s.dn=Ay:=(by unfold WZ;rw[h1,h2];rfl);cases a <;> exact this
  have f3:(a.run s).le=s.le:=by
   have:YP s.fu s.le s.dn=s.le:=(by unfold YP;rw[Ax (by rw[h1];simp)]);cases a <;> exact this
  obtain⟨g1,g2,g3,g4,g5⟩:=Lh A (a.run s) f1 f2;exact⟨g1,by rw[g2,PA.run_fu];rfl,g3,g4,g5.trans f3⟩
theorem Gm(W:List (Nat × List Int))(x:List (List Int) × List (Nat × List Int)):FZ (W.map fun y=>.w y.1 y.2) x=(x.1,x.2 ++ W):=by
 induction W generalizing x with
 |nil=>simp[FZ]
 |cons y W ih=>
  show FZ (W.map fun y=>.w y.1 y.2) (x.1,x.2 ++ [(y.1,y.2)])=_
  rw[ih];simp
theorem aM:∀ (W:List (Nat × List Int)) (F:List (List Int)) (i:Nat) (y:List Int),(∀ x∈W,x.1=i->x.2=y)->(Cb W F).getD i []=F.getD i []\/(Cb W F).getD i []=y
 |[],F,i,y,_=>AU rfl
 |x :: W,F,i,y,h=>by
  have ih:=aM W (F.set x.1 x.2) i y fun z hz=>h z (By _ hz)
  show(Cb W (F.set x.1 x.2)).getD i []=_\/_
  rcases ih with ih|ih
  . show(Cb W (F.set x.1 x.2)).getD i []=F.getD i []\/(Cb W (F.set x.1 x.2)).getD i []=y
    rw[ih];by_cases e:x.1=i
    . by_cases hi:i<F.length
      . right
        have:=h x (Cj ..) e;subst e;rw[<- this];simp[hi]
      . left
        rw[An,A2 (by rw[AF];omega),An,A2 (by omega)]
    . left
      rw[An,Bp e,<- An]
  . exact AW ih
theorem IS:∀ (W:List (Nat × List Int)) (F:List (List Int)) (i:Nat) (y:List Int),i<F.length->(∀ x∈W,x.1=i->x.2=y)->(∃ x∈W,x.1=i)->(Cb W F).getD i []=y
 |[],F,i,y,_,_,h=>by obtain⟨x,hx,_⟩:=h;cases hx
 |x :: W,F,i,y,hi,hall,hex=>by
  show(Cb W (F.set x.1 x.2)).getD i []=y
  by_cases h:∃ z∈W,z.1=i
  . exact IS W _ i y (by rw[AF];exact hi) (fun z hz=>hall z (By _ hz)) h
  . have e:x.1=i:=by
     obtain⟨z,hz,hzi⟩:=hex;rcases Ew.1 hz with rfl|hz
     . exact hzi
     . exact absurd ⟨z,hz,hzi⟩ h
    rw[Dj W _ i fun z hz hzi=>h ⟨z,hz,hzi⟩];have:=hall x (Cj ..) e;subst e;rw[<- this];simp[hi]
def Ey(V:List (List Int)):List (List Int):=(V.drop 3).take 40
theorem EC{V:List (List Int)}(h:43<=V.length):(Ey V).length=40:=by simp[Ey];omega
theorem Hp(V:List (List Int))(j:Nat)(hj:j<40):(Ey V).getD j []=V.getD (3+j) []:=by
 simp[Ey,hj]
theorem Zu{V V':List (List Int)}(h:43<=V.length)(h':43<=V'.length)(he:∀ i,3<=i->i<43->V.getD i []=V'.getD i []):Ey V=Ey V':=by
 apply Bg
 . rw[EC h,EC h']
 . intro j a b
   have hj:j<40:=(by rw[EC h] at a;exact a);have g1:(Ey V).getD j []=(Ey V)[j]:=(by simp[a]);have g2:(Ey V').getD j []=(Ey V')[j]:=(by simp[b]);rw[<- g1,<- g2,Hp V j hj,Hp V' j hj];exact he _ (by omega) (by omega)
theorem kW(q:Int):(BK (DX q)).getD 0 0=100:=by
 have e:BK (DX q)=100 :: ([111,110,101] ++ BT q 4 ++ Aw (252-(DX q).length) 0 ++ BT (Fq (DH (DX q))) 4):=by
  unfold BK;generalize Fq (DH (DX q))=S;unfold DH;generalize Aw (252-(DX q).length) (0:Int)=R;unfold DX Qw;simp
 rw[e];rfl
theorem ja(n:Nat)(h:0<n):(Aw n (0:Int)).getD 0 0=0:=by
 cases n with
 |zero=>omega
 |succ n=>rfl
def z256:List Int:=Aw 256 0
theorem eO{V:List (List Int)}(h:43<=V.length)(hz:V.getD 42 []=z256)(q:Int)(N:List Int)(D:List (List Int)):¬ Io (Ey V) q N D:=by
 rintro⟨_,_,hl,_⟩;rw[EC h,Hp V 39 (by omega)] at hl;have e:=kW q;rw[<- hl,hz,z256,ja 256 (by omega)] at e;exact absurd e (by decide)
theorem Wh{V:List (List Int)}(h:43<=V.length){q:Int}{N:List Int}{D:List (List Int)}(hF:Gf N D=AE)(hq:0<=q/\q<4294967296)(h3:V.getD 3 []=BK (Cv q N))(hb:∀ j,j<N.length->V.getD (4+j) []=D.getD j [])(hz:V.getD 42 []=BK (DX q)):Io (Ey V) q N D:=by
 obtain⟨JJ,hDl,hall⟩:=EJ hF;have hFN:ED N=AE:=by rw[Jf] at hF;rw[AQ] at hF;exact hF.1
 have hW:H3 D=AE:=by rw[Jf,AQ,AQ] at hF;exact hF.2.2
 have MV:=EC h;refine⟨⟨by omega,hFN,hq,by rw[Hp V 0 (by omega)];exact h3⟩,by omega,by rw[MV,Hp V 39 (by omega)];exact hz,?_,hW⟩;apply Bg
 . simp[MV];omega
 . intro j a b
   have hj:j<N.length:=(by omega);have h1:=Hp V (1+j) (by omega);have h2:=hb j hj;have h3:(Ey V)[1+j]? =I (V.getD (4+j) []):=by
    rw[An,AL (by omega)] at h1;rw[AL (by omega),<- show 3+(1+j)=4+j by omega,<- h1];rfl
   have h4:((Ey V).drop 1).take N.length=((Ey V).drop 1).take N.length:=rfl;have h5:(((Ey V).drop 1).take N.length)[j]? =I (V.getD (4+j) []):=by
    rw[AZ,Au hj,Bk];exact h3
   rw[AL a] at h5;have h6:D.getD j []=D[j]:=(by simp[b]);rw[A0 h5,h2,h6]
def D6(i:Nat):Prop:=i<3\/43<=i
def Ci(N:List Int)(D:List (List Int)):List (Nat × List Int):=(Bu N.length).map fun j=>((N.getD j 0).toNat,D.getD j [])
theorem Nr{N:List Int}{D:List (List Int)}{x:Nat × List Int}(h:x∈Ci N D):∃ j,j<N.length/\x=((N.getD j 0).toNat,D.getD j []):=by
 obtain⟨j,hj,rfl⟩:=BZ.1 h;exact⟨j,Bd.1 hj,rfl⟩
def de(n:Nat)(N:List Int):Prop:=∀ j,j<N.length->D6 (N.getD j 0).toNat/\(N.getD j 0).toNat<n
theorem Sd{N:List Int}{D:List (List Int)}(hF:Gf N D=AE){x y:Nat × List Int}(hx:x∈Ci N D)(hy:y∈Ci N D)(h:x.1=y.1):x.2=y.2:=by
 obtain⟨_,_,hall⟩:=EJ hF;obtain⟨i,hi,rfl⟩:=Nr hx;obtain⟨j,hj,rfl⟩:=Nr hy;have hi':=hall i hi;have hj':=hall j hj;have e:N.getD i 0=N.getD j 0:=by
  have:(N.getD i 0).toNat=(N.getD j 0).toNat:=h;omega
 have eij:i=j:=by
  rcases Nat.lt_trichotomy i j with hlt|hlt|hlt
  . exact absurd e ((QB N j hj).1 hj'.2.2 i hlt)
  . exact hlt
  . exact absurd e.symm ((QB N i hi).1 hi'.2.2 j hlt)
 rw[eij]
theorem bM{N:List Int}{D:List (List Int)}(hF:Gf N D=AE){W:List (Nat × List Int)}(hW:∀ x∈W,x∈Ci N D)(F G:List (List Int))(i:Nat)(hi:i<G.length)(h0:F.getD i []=G.getD i []\/F.getD i []=(Cb (Ci N D) G).getD i []):
 (Cb W F).getD i []=G.getD i []\/(Cb W F).getD i []=(Cb (Ci N D) G).getD i []:=by
 by_cases hex:∃ x∈Ci N D,x.1=i
 . obtain⟨x,hx,hxi⟩:=hex
   have hall:∀ z∈Ci N D,z.1=i->z.2=x.2:=fun z hz hzi=>Sd hF hz hx (hzi.trans hxi.symm)
   have h1:=IS (Ci N D) G i x.2 hi hall ⟨x,hx,hxi⟩;rw[h1];rcases aM W F i x.2 (fun z hz hzi=>hall z (hW z hz) hzi) with h|h
   . rw[h];rw[h1] at h0;exact h0
   . exact AW h
 . have CU:∀ z∈Ci N D,z.1≠i:=fun z hz hzi=>hex ⟨z,hz,hzi⟩
   rw[Dj W F i fun z hz=>CU z (hW z hz)];exact h0
theorem UI{N:List Int}{D:List (List Int)}(hF:Gf N D=AE)(F G:List (List Int))(hl:F.length=G.length)(i:Nat)(hi:i<G.length)(h0:F.getD i []=G.getD i []\/F.getD i []=(Cb (Ci N D) G).getD i []):
 (Cb (Ci N D) F).getD i []=(Cb (Ci N D) G).getD i []:=by
 by_cases hex:∃ x∈Ci N D,x.1=i
 . obtain⟨x,hx,hxi⟩:=hex
   have hall:∀ z∈Ci N D,z.1=i->z.2=x.2:=fun z hz hzi=>Sd hF hz hx (hzi.trans hxi.symm)
   rw[IS (Ci N D) G i x.2 hi hall ⟨x,hx,hxi⟩,IS (Ci N D) F i x.2 (by omega) hall ⟨x,hx,hxi⟩]
 . have CU:∀ z∈Ci N D,z.1≠i:=fun z hz hzi=>hex ⟨z,hz,hzi⟩
   have e:=Dj (Ci N D) G i CU;rw[Dj _ F i CU,e];rcases h0 with h0|h0
   . exact h0
   . rw[h0,e]
theorem RM{N:List Int}{D:List (List Int)}{n:Nat}(hf:de n N){W:List (Nat × List Int)}(hW:∀ x∈W,x∈Ci N D)(F:List (List Int))(h:43<=F.length):Ey (Cb W F)=Ey F:=by
 refine Zu (by rw[BU];exact h) h fun i h1 h2=>Dj W F i fun x hx e=>?_
 obtain⟨j,hj,rfl⟩:=Nr (hW x hx);have:=(hf j hj).1;have e:(N.getD j 0).toNat=i:=e;rw[e] at this;rcases this with h|h <;> omega
def InvT(F:List (List Int))(q:Int)(N:List Int)(D G:List (List Int)):Prop:=
 F.length=G.length/\Io (Ey F) q N D/\∀ i,D6 i->i<G.length->F.getD i []=G.getD i []\/F.getD i []=(Cb (Ci N D) G).getD i []
def InvN(F G:List (List Int)):Prop:=F.length=G.length/\F.getD 42 []=z256/\∀ i,D6 i->i<G.length->F.getD i []=G.getD i []
theorem InvT.home{F:List (List Int)}{q:Int}{N:List Int}{D G:List (List Int)}(h:InvT F q N D G)(hF:Gf N D=AE)(hf:de G.length N)(hG:43<=G.length){W:List (Nat × List Int)}(hW:∀ x∈W,x∈Ci N D):InvT (Cb W F) q N D G:=
 ⟨by rw[BU];exact h.1,by rw[RM hf hW F (by rw[h.1];exact hG)];exact h.2.1,fun i hi hl=>bM hF hW F G i hl (h.2.2 i hi hl)⟩
theorem InvT.done{F:List (List Int)}{q:Int}{N:List Int}{D G:List (List Int)}(h:InvT F q N D G)(hF:Gf N D=AE)(i:Nat)(hi:D6 i)(hl:i<G.length):(Cb (Ci N D) F).getD i []=(Cb (Ci N D) G).getD i []:=
 UI hF F G h.1 i hl (h.2.2 i hi hl)
def Dl(q:Int)(W:List (Nat × List Int)):List PA:=[.f,.w 42 z256,.f] ++ (W.map fun y=>.w y.1 y.2) ++ [.f,.w 42 (BK (DX q)),.f]
def rE(q:Int)(N:List Int)(D:List (List Int))(W:List (Nat × List Int)):Prop:=
 (∀ x∈W,3<=x.1/\x.1<42)/\∀ F:List (List Int),43<=F.length->(Cb W F).getD 3 []=BK (Cv q N)/\∀ j,j<N.length->(Cb W F).getD (4+j) []=D.getD j []
theorem F3(F:List (List Int))(k i:Nat)(x:List Int)(h:k≠i):(F.set k x).getD i []=F.getD i []:=by
 rw[An,Bp h,<- An]
theorem Mh(F:List (List Int))(k:Nat)(x:List Int)(h:k<F.length):(F.set k x).getD k []=x:=by
 simp[h]
theorem Ky(kp:Nat->Bool)(x:Nat × List Int):DV kp [x]=[]\/DV kp [x]=[x]:=by
 unfold DV;cases h:kp 0
 . left;simp[h]
 . right;simp[h]
theorem fa{q1 q2:Int}{N1 N2:List Int}{D1 D2 Z:List (List Int)}(hZ:43<=Z.length){W:List (Nat × List Int)}(hW:rE q2 N2 D2 W)(um:Gf N1 D1=AE)(hf1:de Z.length N1)(pd:Gf N2 D2=AE)(sh:0<=q2/\q2<4294967296)
 (s:DS) (hs:InvT s.F q1 N1 D1 Z) (hU:∀ x∈s.U,x∈Ci N1 D1) (hv:∀ i,D6 i->i<Z.length->s.vis.getD i []=(Cb (Ci N1 D1) Z).getD i []) (kp:Nat->Bool):
 let r:=BC (Dl q2 W) s
 let G:=Cb (Ci N1 D1) Z
 (InvT (Cb (DV kp r.2.U) r.2.F) q1 N1 D1 Z/\r.1=2\/InvN (Cb (DV kp r.2.U) r.2.F) G/\r.1=2\/InvT (Cb (DV kp r.2.U) r.2.F) q2 N2 D2 G)/\
   (r.1=0->r.2.U=[]/\InvT r.2.F q2 N2 D2 G/\∀ i,D6 i->i<Z.length->r.2.F.getD i []=G.getD i []):=by
 intro r G;have pf:G.length=Z.length:=BU _ _;obtain⟨k,hk,Ly,hr⟩:=H7 (Dl q2 W) s;have Lz:r.2.F=(FZ ((Dl q2 W).take k) s.fuP).1:=Bt Prod.fst Ly;have Lr:r.2.U=(FZ ((Dl q2 W).take k) s.fuP).2:=Bt Prod.snd Ly;have hlen:(Dl q2 W).length=6+W.length:=by simp[Dl];omega
 obtain⟨V0,mj⟩:=nm s.vis;have pi:V0.length=Z.length:=by rw[mj,DS.vis_length,hs.1]
 have hV0j:Ey V0=Ey s.F:=by rw[mj];exact RM hf1 hU s.F (by rw[hs.1];exact hZ)
 have uw:∀ i,D6 i->i<Z.length->V0.getD i []=G.getD i []:=by rw[mj];exact hv
 have ml:InvT V0 q1 N1 D1 Z:=⟨pi,by rw[hV0j];exact hs.2.1,fun i hi hl=>AW (uw i hi hl)⟩;obtain⟨V1,gR⟩:=nm (V0.set 42 z256);have ZK:V1.length=Z.length:=by rw[gR,AF,pi]
 have out42:∀ i,D6 i->42≠i:=fun i hi e=>by rcases hi with h|h <;> omega
 have ux:∀ i,D6 i->i<Z.length->V1.getD i []=G.getD i []:=fun i hi hl=>by rw[gR,F3 _ _ _ _ (out42 i hi)];exact uw i hi hl
 have uy:V1.getD 42 []=z256:=by rw[gR];exact Mh _ _ _ (by omega)
 have hN1:InvN V1 G:=⟨by rw[ZK,pf],uy,fun i hi hl=>ux i hi (by rw[pf] at hl;exact hl)⟩;have uz:∀ X,(∀ x∈X,x∈W)->InvN (Cb X V1) G:=fun X hX=>by
  refine⟨by rw[BU,ZK,pf],?_,fun i hi hl=>?_⟩
  . rw[Dj X V1 42 fun x hx e=>by have:=(hW.1 x (hX x hx)).2;omega];exact uy
  . rw[Dj X V1 i fun x hx e=>by have:=hW.1 x (hX x hx);rcases hi with h|h <;> omega]
    exact ux i hi (by rw[pf] at hl;exact hl)
 obtain⟨V2,Uv⟩:=nm (Cb W V1);have si:V2.length=Z.length:=by rw[Uv,BU,ZK]
 have hN2:InvN V2 G:=by rw[Uv];exact uz W fun x hx=>hx
 obtain⟨V3,ZL⟩:=nm (V2.set 42 (BK (DX q2)));have sj:V3.length=Z.length:=by rw[ZL,AF,si]
 obtain⟨hd,hbl⟩:=hW.2 V1 (by omega);have JJ:=(EJ pd).1;have hT3:Io (Ey V3) q2 N2 D2:=by
  refine Wh (by omega) pd sh ?_ (fun j hj=>?_) ?_
  . rw[ZL,F3 _ _ _ _ (by omega),Uv];exact hd
  . rw[ZL,F3 _ _ _ _ (by omega),Uv];exact hbl j hj
  . rw[ZL];exact Mh _ _ _ (by omega)
 have lL:∀ i,D6 i->i<Z.length->V3.getD i []=G.getD i []:=fun i hi hl=>by rw[ZL,F3 _ _ _ _ (out42 i hi)];exact hN2.2.2 i hi (by rw[pf];exact hl)
 have sk:InvT V3 q2 N2 D2 G:=⟨by rw[sj,pf],hT3,fun i hi hl=>AU (lL i hi (by rw[pf] at hl;exact hl))⟩;have full:k=(Dl q2 W).length->r.2.F=V3/\r.2.U=[]:=fun e=>by
  rw[Lz,Lr,e,BP];unfold Dl;rw[Cn,Cn,Gm];have a1:FZ [.f,.w 42 z256,.f] s.fuP=(V1,[]):=by
   show(Cb ([] ++ [(42,z256)]) (Cb s.U s.F),([]:List (Nat × List Int)))=(V1,[])
   rw[gR,mj];rfl
  rw[a1];show(Cb ([] ++ [(42,BK (DX q2))]) (Cb ([] ++ W) V1))=V3/\_
  rw[ZL,Uv];exact⟨rfl,rfl⟩
 refine⟨?_,fun h0=>?_⟩
 . have Lx:k=0\/k=1\/k=2\/(3<=k/\k<=3+W.length)\/k=4+W.length\/k=5+W.length\/k=6+W.length:=by omega
   have h2:k≠(Dl q2 W).length->r.1=2:=fun hne=>by
    rcases hr with⟨_,h⟩|h
    . exact absurd h hne
    . exact h
   have step:∀ j,(Dl q2 W).take (3+j)=([PA.f,PA.w 42 z256,PA.f]:List PA) ++ ((W.map fun y:Nat × List Int=>PA.w y.1 y.2) ++ [PA.f,PA.w 42 (BK (DX q2)),PA.f]).take j:=fun j=>by
    unfold Dl;rw[A7];exact DJ (l₁:=([PA.f,PA.w 42 z256,PA.f]:List PA)) j
   have a1:FZ [.f,.w 42 z256,.f] s.fuP=(V1,[]):=by
    show(Cb ([] ++ [(42,z256)]) (Cb s.U s.F),([]:List (Nat × List Int)))=(V1,[])
    rw[gR,mj];rfl
   rcases Lx with rfl|rfl|rfl| ⟨ha,hb⟩|rfl|rfl|rfl
   . refine AU ⟨?_,h2 (by omega)⟩
     have e1:r.2.F=s.F:=Lz;have e2:r.2.U=s.U:=Lr;rw[e1,e2];exact hs.home um hf1 hZ fun x hx=>hU x (Hn hx)
   . refine AU ⟨?_,h2 (by omega)⟩
     have e1:r.2.F=V0:=(by rw[mj];exact Lz);have e2:r.2.U=[]:=Lr;rw[e1,e2];exact ml
   . have e1:r.2.F=V0:=by rw[mj];exact Lz
     have e2:r.2.U=[(42,z256)]:=Lr;rw[e1,e2];rcases Ky kp (42,z256) with e|e
     . rw[e];exact AU ⟨ml,h2 (by omega)⟩
     . rw[e]
       refine AW (AU ⟨?_,h2 (by omega)⟩);show InvN (V0.set 42 z256) G
       rw[<- gR];exact hN1
   . obtain⟨j,rfl⟩:∃ j,k=3+j:=⟨k-3,by omega⟩
     have hj:j<=W.length:=(by omega);rw[step,Do (by simpa using hj),<- List.map_take,Cn,a1,Gm] at Lz Lr;rw[Lz,Lr];refine AW (AU ⟨uz _ fun x hx=>?_,h2 (by omega)⟩);have:=Hn hx;rw[List.nil_append] at this;exact DB this
   . have e0:(Dl q2 W).take (4+W.length)=[.f,.w 42 z256,.f] ++ ((W.map fun y=>PA.w y.1 y.2) ++ [.f]):=by
      rw[show 4+W.length=3+(W.length+1) by omega,step];congr 1;rw[show W.length+1=(W.map fun y=>PA.w y.1 y.2).length+1 by simp,DJ];rfl
     rw[e0,Cn,Cn,a1,Gm] at Lz Lr;have e1:r.2.F=V2:=(by rw[Uv];exact Lz);have e2:r.2.U=[]:=Lr;rw[e1,e2];exact AW (AU ⟨hN2,h2 (by omega)⟩)
   . have e0:(Dl q2 W).take (5+W.length)=[.f,.w 42 z256,.f] ++ ((W.map fun y=>PA.w y.1 y.2) ++ [.f,.w 42 (BK (DX q2))]):=by
      rw[show 5+W.length=3+(W.length+2) by omega,step];congr 1;rw[show W.length+2=(W.map fun y=>PA.w y.1 y.2).length+2 by simp,DJ];rfl
     rw[e0,Cn,Cn,a1,Gm] at Lz Lr;have e1:r.2.F=V2:=(by rw[Uv];exact Lz);have e2:r.2.U=[(42,BK (DX q2))]:=Lr;rw[e1,e2];rcases Ky kp (42,BK (DX q2)) with e|e
     . rw[e];exact AW (AU ⟨hN2,h2 (by omega)⟩)
     . rw[e]
       refine AW (AW ?_);show InvT (V2.set 42 (BK (DX q2))) q2 N2 D2 G
       rw[<- ZL];exact sk
   . obtain⟨e1,e2⟩:=full (by omega)
     rw[e1,e2];exact AW (AW sk)
 . have SI:k=(Dl q2 W).length:=by
    rcases hr with⟨_,h⟩|h
    . exact h
    . have h0':(BC (Dl q2 W) s).1=0:=h0
      rw[h0'] at h;cases h
   obtain⟨e1,e2⟩:=full SI;rw[e1,e2];exact⟨rfl,sk,lL⟩
def B7(N:List Int)(D:List (List Int)):List PA:=(Ci N D).map fun y=>.w y.1 y.2
theorem Jh(N:List Int)(D:List (List Int))(k:Nat)(x:List (List Int) × List (Nat × List Int)):FZ ((B7 N D).take k) x=(x.1,x.2 ++ (Ci N D).take k):=by
 unfold B7;rw[<- List.map_take,Gm]
theorem Fh(N:List Int)(D:List (List Int)):(B7 N D).length=N.length:=by simp[B7,Ci]
theorem PY{q:Int}{N:List Int}{D G:List (List Int)}(hF:Gf N D=AE)(hf:de G.length N)(hG:43<=G.length)(s:DS)(hs:InvT s.F q N D G)(hU:∀ x∈s.U,x∈Ci N D)(fl:Bool)(kp:Nat->Bool):
 let r:=BC (B7 N D ++ (if fl then [.f] else [])) s
 InvT (Cb (DV kp r.2.U) r.2.F) q N D G/\InvT r.2.F q N D G/\(∀ x∈r.2.U,x∈Ci N D):=by
 intro r;obtain⟨k,hk,Ly,_⟩:=H7 (B7 N D ++ (if fl then [PA.f] else [])) s;have Lz:r.2.F=(FZ ((B7 N D ++ (if fl then [PA.f] else [])).take k) s.fuP).1:=Bt Prod.fst Ly;have Lr:r.2.U=(FZ ((B7 N D ++ (if fl then [PA.f] else [])).take k) s.fuP).2:=Bt Prod.snd Ly;have key:InvT r.2.F q N D G/\∀ x∈r.2.U,x∈Ci N D:=by
  by_cases hkl:k<=(B7 N D).length
  . rw[Do hkl,Jh] at Lz Lr
    rw[Lz,Lr];refine⟨hs,fun x hx=>?_⟩;rcases BI.1 hx with h|h
    . exact hU x h
    . exact DB h
  . cases fl
    . rw[AD] at hk
      simp at hk;omega
    . have e:(B7 N D ++ (if AE then [PA.f] else [])).take k=B7 N D ++ [PA.f]:=by
       apply AR;simp;omega
      rw[e,Cn] at Lz Lr;have e2:=Jh N D (B7 N D).length s.fuP;rw[BP] at e2;rw[e2] at Lz Lr;have e3:(Ci N D).take (B7 N D).length=Ci N D:=by
       apply AR;simp[B7]
      rw[e3] at Lz Lr;have e4:r.2.F=Cb (s.U ++ Ci N D) s.F:=Lz;have e5:r.2.U=[]:=Lr;rw[e4,e5];refine⟨hs.home hF hf hG fun x hx=>?_,fun x hx=>by cases hx⟩;rcases BI.1 hx with h|h
      . exact hU x h
      . exact h
 exact⟨key.1.home hF hf hG fun x hx=>key.2 x (Hn hx),key.1,key.2⟩
theorem Gg(w:t)(b off n cap l h:Nat)(hi:Option Ao)(hhi:(hi=J/\h=n)\/hi=I (O Ad (h:Int)))(h1:l<=h)(h2:h<=cap)(h3:l<cap):
 (Instr.sliceAt 77 (Y (I ⟨b,off,J⟩) n cap) (I (O Ad (l:Int))) hi J).run Ae w=.ok (Y (I ⟨b,off+l,J⟩) (h-l) (cap-l)) w:=by
 obtain⟨i,g2,g3,g4,g5⟩:=Bf IB;have hne:cap≠l:=by omega
 have ee:Ae.elem 77=5:=by kernel_rfl
 have hs:(sizeOf 5).run Ae w=.ok 1 w:=by simp[sizeOf,typeInfo,g2,g4]
 rcases hhi with⟨rfl,rfl⟩|rfl
 . rw[run_sliceAt_slice w 77 _ _ _ _ (by rw[ee];exact Tryz.underlying77),run_slice_l w 77 _ h cap (by rw[ee];exact Tryz.underlying77) Ad (l:Int) (by omega) (by omega),ee,hs]
   simp[sliced,hne,BY]
 . rw[run_sliceAt_slice w 77 _ _ _ _ (by rw[ee];exact Tryz.underlying77),run_slice_lh w 77 _ n cap (by rw[ee];exact Tryz.underlying77) Ad Ad (l:Int) (h:Int) (by omega) (by omega) (by omega),ee,hs]
   simp[sliced,hne,BY]
theorem DY{w:t}{ops:Array BE}{rest:List BE}{o:BE}{a:Act}{Q:Exit->Act->t->Prop}(Du:o.guard=J)(x lo hi:Operand)(ho:o.op=.slice 77 x (I lo) (I hi) J)
 (b off n cap:Nat) (hx:a.eval x=Y (I ⟨b,off,J⟩) n cap) (L H:Int) (hl:a.eval lo=O Ad L) (hh:a.eval hi=O Ad H) (l h m:Nat) (hm:h-l=m) (hL:L=l) (hH:H=h) (h1:l<=h) (h2:h<=cap) (h3:l<cap)
 (hK:Cf Ae ops Q rest (a.put o.dst (Y (I ⟨b,off+l,J⟩) m (cap-l))) w):Cf Ae ops Q (o :: rest) a w:=by
 subst hL hH hm;refine CA Du fun K hK'=>?_
 unfold BE.wp execOp;simp only[ho,hx,hl,hh,Option.map_some,Option.map_none,Gg w b off n cap l h _ (AW rfl) h1 h2 h3,Dg,Sem.run_pure,Result.andThen_ok];exact hK' _ _ hK
theorem BSl.mid{w:t}{b off cap:Nat}{l:List Int}(h:BSl w (Y (I ⟨b,off,J⟩) l.length cap) l)(lo m:Nat)(hm:lo+m<=l.length):BSl w (Y (I ⟨b,off+lo,J⟩) m (cap-lo)) ((l.drop lo).take m):=by
 have hlen:((l.drop lo).take m).length=m:=by simp;omega
 rcases h.2 with⟨hv,_⟩| ⟨a',c',hv,rV,hc⟩
 . simp at hv
 . obtain⟨rfl,rfl⟩:a'=⟨b,off,J⟩/\cap=c':=by
    have:=AY hv;exact⟨(A0 this.1).symm,this.2.2⟩
   refine⟨Es (MS h.1 lo) m,AW ⟨⟨b,off+lo,J⟩,cap-lo,by rw[hlen],by rw[hlen];omega,fun j hj=>?_⟩⟩;rw[hlen] at hj;obtain⟨h1,_,h3⟩:=hc (lo+j) (by omega);refine⟨h1,rfl,?_⟩;show w.cell? ⟨b,off+lo+j,J⟩=_
   rw[Dt];have h3:w.cell? ⟨b,off+(lo+j),J⟩=I (O .u8 (l.getD (lo+j) 0)):=h3;rw[h3];simp[hj]
theorem BSl.open'{w:t}{v:Ao}{l:List Int}(h:BSl w v l)(h0:0<l.length):∃ b off cap,v=Y (I ⟨b,off,J⟩) l.length cap/\l.length<=cap/\b<w.heap.size:=by
 rcases h.2 with⟨_,hl⟩| ⟨⟨b,off,spot⟩,cap,hv,rV,hc⟩
 . rw[hl] at h0;simp at h0
 . obtain⟨h1,h2,_⟩:=hc 0 h0
   obtain rfl:spot=J:=h2;exact⟨b,off,cap,hv,rV,h1⟩
structure Rw (w:t) (B:Nat) (v:Ao) (l:List Int) (g cap:Nat) (T:Cg) (rest:List Ao):Prop where
 byt:Fv l
 len:l.length=256
 val:v=Y (I ⟨g,0,J⟩) 256 cap
 ge:B<=g
 row:w.heap[g]? =I (Am (l.map (O .u8) ++ rest).toArray T (0,0))
 cap:256<=cap
section
variable {w w':t}{B g cap:Nat}{v:Ao}{l:List Int}{T:Cg}{rest:List Ao}
theorem Rw.lt(h:Rw w B v l g cap T rest):g<w.heap.size:=(Ah.1 h.row).1
theorem Rw.bsl(h:Rw w B v l g cap T rest):BSl w v l:=by
 refine⟨h.byt,AW ⟨⟨g,0,J⟩,cap,by rw[h.val,h.len],by rw[h.len];exact h.cap,fun j hj=>⟨h.lt,rfl,?_⟩⟩⟩;show w.cell? ⟨g,0+j,J⟩=_
 rw[Br,Aq _ _ _ _ _ _ h.row];simp only[List.getElem?_toArray];rw[BH (by simpa using hj),DR,AL hj,An,AL hj];rfl
theorem OB.rw'(h:OB w B v l)(hl:l.length=256):∃ g cap T rest,Rw w B v l g cap T rest:=by
 rcases h.2.2 with⟨_,h0⟩| ⟨g,cap,cur,hv,hg,hh,Ii,Jq,Jr,ht⟩
 . omega
 . refine⟨g,cap,5,cur.toList.drop 256,h.1,hl,by rw[hv,hl],hg,?_,by omega⟩
   rw[hh];have:l.map (O .u8) ++ cur.toList.drop 256=cur.toList:=by
    rw[<- ht,hl,Nat.mul_one,Fw]
   rw[this]
end
section
variable {w:t}{P:Nat->Prop}{p:Ao}{s:DS}
theorem Tu(h:Dk w P p s):Av Ae 134 #[p] w fun e w'=>e=Aj (O Ad (s.F.length:Nat))/\w=w':=by
 obtain⟨bp,bf,bv,u,rfl,h,_⟩:=h;have c1:=h.c1;rw[DS.vis_length] at c1;clear h;go_enter Tryz.func134,Tryz.ntmps134;go_wp2;go_ret;exact⟨rfl,rfl⟩
theorem iZ(hk:Dk w P p s)(n:Nat)(hn:n<s.F.length)(hd:s.dn=Ay):
 Av Ae 146 #[p,O Ad n] w fun e w'=>∃ v,e=Aj (AH #[v,O Ad 0])/\Rw w' w.heap.size v (s.vis.getD n []) w.heap.size 256 164 []/\Ap w.heap.size w w':=by
 obtain⟨bp,bf,bv,u,rfl,h,_⟩:=hk;rw[hd] at h;have hnV:n<s.vis.length:=by rw[DS.vis_length];exact hn
 have hge:s.vis.getD n []=s.vis[n]:=by rw[An,AL hnV];rfl
 rw[hge];generalize s.vis=V at h hnV |-
 clear hge hn;have hlen:Ae.arrayLen 164=256:=by kernel_rfl
 have hblk:WY V[n]:=h.okV _ (Be _);have hmem:=Ev h.hv (o:=n*256) (vs:=cB V[n]) (by rw[CG,hblk.1];exact Gb (Er h.okV) n hnV);have KH:=wM (TV h n);have hdc:decide (0<=(n:Int)/\(n:Int)<V.length)=AE:=Az (by omega);rw[hdc] at KH;obtain⟨b,hb⟩:=nm (V[n]);rw[<- hb] at hblk hmem |-
 have HL:Hid ((cB b).length=256):=by show _=_;rw[CG,hblk.1]
 have HR:=wM hmem;have HB:=wM hblk;have HZ:=wM Fj;have hone:∀ v∈zB,v.oneCell'=AE:=fun v hv=>by rw[BS hv];rfl
 have c1:=h.c1;have c5:=h.c5;have hn':(n:Int)<V.length:=by omega
 clear hb hblk hmem h hdc hd;go_enter Tryz.func146,Tryz.ntmps146
 go_wp2_with (first
  |(go_at_call 118;refine KH.out.mono ?_;rintro e w' ⟨rfl,rfl⟩)
  |with_reducible refine GF _ rfl rfl ?_
  |(refine ME _ rfl _ (by rfl) bv (n*256) (cB b) (by rfl) HR.out HL.out ?_)
  |(refine FH _ rfl _ _ (by rfl) _ 164 zB (cB b) (by rfl) (by rfl) (Cq _ _) HZ.out HL.out (GV b) ?_
    rw[E3]))
 go_ret2;refine⟨_,rfl,⟨HB.out.2,HB.out.1,rfl,At _,?_,At _⟩,(AC _ _).alloc (At _) _⟩;rw[Cq,BW];rfl
theorem tT(hk:Dk w P p s)(n:Nat)(hn:n<s.F.length)(hd:s.dn=Ay):
 Av Ae 146 #[p,O Ad n] w fun e w'=>∃ v,e=Aj (AH #[v,O Ad 0])/\BSl w' v (s.vis.getD n [])/\Ap w.heap.size w w'/\v=Y (I ⟨w.heap.size,0,J⟩) 256 256:=
 (iZ hk n hn hd).mono fun e w' ⟨v,he,hr,hb⟩=>⟨v,he,hr.bsl,hb,hr.val⟩
theorem iW(h:Dk w P p s)(n:Nat)(hn:n<s.F.length){v:Ao}{l:List Int}(hv:BSl w v l)(hl:l.length=256)(hU:s.U.length<=1000000):
 Av Ae 163 #[p,O Ad n,v] w fun e w'=>e=Aj (O Ad (if s.ok then 0 else 2))/\∃ P',Dk w' P' p (if s.ok then s.write n l else s.pay)/\Chg P P' w w':=by
 obtain⟨bp,bf,bv,u,rfl,h,⟨h0,h1⟩,hP⟩:=h;cases hok:s.ok
 . refine(Y2 h h0 h1 n hv ⟨by rw[DS.vis_length];omega,hl⟩ hok).mono ?_
   rintro e w' ⟨rfl,hd,hw⟩;exact⟨rfl,P,⟨bp,bf,bv,u,rfl,hd,NE ⟨h0,h1⟩,hP⟩,Chg.of_wrote hP hw⟩
 . refine(dM h h0 h1 hok n (by rw[DS.vis_length];exact hn) hv hl hU).mono ?_
   rintro e w' ⟨rfl,u',hd,_,Uw⟩;refine⟨rfl,_,⟨bp,bf,bv,u',rfl,?_,NE ⟨h0,h1⟩,fun k=>Iff.rfl⟩,Chg.of_frU hP Uw⟩;show DskAt w' 0 bp bf bv u' s.F (s.write n l).vis (s.U ++ [(n,l)]) s.fu _ _
   rw[DS.write_vis];exact hd
theorem Td(h:Dk w P p s)(hU:s.U.length<=1000000):
 Av Ae 123 #[p] w fun e w'=>e=Aj (O Ad (if s.ok then 0 else 2))/\∃ P',Dk w' P' p (if s.ok then s.flush else s.pay)/\Chg P P' w w':=by
 obtain⟨bp,bf,bv,u,rfl,h,⟨h0,h1⟩,hP⟩:=h;have KP:=wM (Jm h h0 h1);have HP:=wM hP;have HB:=wM (NE (fu:=s.fu) (dn:=s.dn) ⟨h0,h1⟩);cases hok:s.ok
 . have lM:mb s.fu s.le s.dn=Ay:=hok
   rw[lM] at KP;clear h h0 h1 hP hok lM;go_enter Tryz.func123,Tryz.ntmps123;go_wp2_with (go_at_call 164;refine KP.out.mono ?_;rintro e w2 ⟨rfl,hd2,hw2⟩)
   go_ret;exact⟨rfl,P,⟨bp,bf,bv,u,rfl,hd2,HB.out,HP.out⟩,Chg.of_wrote HP.out hw2⟩
 . have lM:mb s.fu s.le s.dn=AE:=hok
   rw[lM] at KP;have HSF:=wM (mB s.U s.F);have HSV:=wM (ra (fun _=>AE) s.U s.F);clear h h0 h1 hP hok lM;go_enter Tryz.func123,Tryz.ntmps123
   go_wp2_with (first
    |(go_at_call 164;refine KP.out.mono ?_;rintro e w2 ⟨rfl,hd2,hw2⟩)
    |(go_at_call 165;refine(fA hd2 (AT _) hU (fun _=>AE) (fun W _ i _=>UE W i)).mono ?_
      rintro e w4 ⟨rfl,h4,_,f4⟩))
   go_ret;refine⟨rfl,_,⟨bp,bf,bv,Y J 0 0,rfl,?_,HB.out,fun k=>Iff.rfl⟩,(Chg.of_wrote HP.out hw2).trans (Chg.of_fr3 HP.out f4)⟩;show DskAt w4 0 bp bf bv (Y J 0 0) s.vis s.flush.vis [] s.fu _ _
   rw[DS.flush_vis];have hd4:DskAt w4 0 bp bf bv (Y J 0 0) (Q0 (fun _=>AE) s.U s.F s.U.length) (XG s.U (Q0 (fun _=>AE) s.U s.F s.U.length) (Cb s.U s.F) s.U.length) [] s.fu (YP s.fu s.le s.dn) (WZ s.fu s.le s.dn):=h4;rw[HSV.out,HSF.out,RZ] at hd4;exact hd4
end
theorem wB(w:t)(n:Nat)(hn:n<=2000):
 Av Ae 35 #[O Ad n] w fun e w'=>∃ p P,e=Aj p/\Dk w' P p (DS.new n)/\(∀ k,P k->w.heap.size<=k)/\Ap w.heap.size w w':=by
 refine(mG w n hn).mono ?_;rintro e w' ⟨p,rfl,_,⟨bp,bf,bv,u,rfl,hd⟩,hb⟩;refine⟨_,VS bp bf bv u,rfl,⟨bp,bf,bv,u,rfl,hd.lower,⟨Int.le_refl _,(by decide:(0:Int)<=9223372036854775807)⟩,fun k=>Iff.rfl⟩,fun k hk=>?_,hb⟩;rcases hk with rfl|rfl|rfl|hk
 . exact hd.bB.1
 . exact hd.bB.2.1
 . exact hd.bB.2.2
 . exact(hd.hu.lt k hk).1
end Go.Proofs.YtfpdajplfmakhaaGreatDoor
