/- What the law rests on. -/
import Derived.OrdersHeld
import Derived.Laws.StructEq
import Derived.Test.YtfpdajplfmakhaaGreatDoorQC3
open Go.Value renaming int->H,slice->V,pointer->Al,tuple->AH,bool->AP,agg->BN
open Go.IntKind renaming i64->E
open Go.Proofs.Tryz renaming prog->Ae
open Option renaming none->R,some->I
open Go renaming World->Ai,Value->Ao,Calls->Av,Oper->BE,wpList->Cf,TypeId->Cg
open Go.Ending renaming returned->Aj
open Go.Obj renaming cells->S
open Go.RowKit renaming Below->Ap
open List renaming replicate->Aw,length_cons->Bm,range->Bu
open Bool renaming false->Ay,true->AE
open Array renaming replicate->AK
open Or renaming inl->AU,inr->AW
open Int renaming toNat_natCast->Cd
namespace Go.Proofs.YtfpdajplfmakhaaGreatDoor
set_option maxHeartbeats 12000000
set_option linter.unusedVariables false
set_option maxRecDepth 100000
theorem Bn:type_of% @List.length_drop:=@List.length_drop
theorem CF:type_of% @Bool.false_ne_true:=@Bool.false_ne_true
section
open Go.RowKit
theorem ISc.chg{P P':Nat->Prop}{w w':Ai}{v:Ao}{l:List Int}(h:ISc w v l)(ha:Apt P v)(hc:Chg P P' w w'):ISc w' v l/\Apt P' v:=
 ⟨⟨(h.1.chg ha hc).1,h.2⟩,(h.1.chg ha hc).2⟩
theorem Dk.types{w:Ai}{P:Nat->Prop}{p:Ao}{s:DS}(h:Dk w P p s)(k:Nat)(hk:P k):∃ cur T,w.heap[k]? =I (S cur T (0,0))/\(T=143\/T=164\/T=168):=by
 obtain⟨bp,bf,bv,u,_,hd,_,hP⟩:=h;rcases(hP k).1 hk with rfl|rfl|rfl|hu
 . exact⟨_,_,hd.hp,AU rfl⟩
 . exact⟨_,_,hd.hf,AW (AU rfl)⟩
 . exact⟨_,_,hd.hv,AW (AU rfl)⟩
 . rcases hd.hu.2 with⟨h0,_⟩| ⟨g,cap,cur,hv,_,hh,_⟩
   . rw[h0] at hu;simp[Ao.ownBlock] at hu
   . rw[hv] at hu
     obtain rfl:g=k:=by simpa [Ao.ownBlock] using hu
     exact⟨_,_,hh,AW (AW rfl)⟩
theorem Dk.not{w:Ai}{P:Nat->Prop}{p:Ao}{s:DS}(h:Dk w P p s){k:Nat}{cur:Array Ao}{T:Cg}(hk:w.heap[k]? =I (S cur T (0,0)))(h1:T≠143)(h2:T≠164)(h3:T≠168):¬ P k:=fun hp=>by
 obtain⟨cur',T',he,ht⟩:=h.types k hp;rw[hk] at he
 injection he with he
 injection he with _ e
 subst e;rcases ht with ht|ht|ht
 . exact h1 ht
 . exact h2 ht
 . exact h3 ht
theorem BElt.apt{w:Ai}{P:Nat->Prop}{p:Ao}{s:DS}(h:Dk w P p s){v:Ao}{l:List Int}(ho:BElt w 0 v l):Apt P v:=by
 intro ad n cap e hn;rcases ho.1.2 with⟨hv,_⟩| ⟨a,c,hv,_,hc⟩
 . rw[hv] at e;cases e
 . have e':=e
   rw[hv] at e';have hl:0<l.length:=(by rw[(AY e').2.1];exact hn);obtain⟨b,off,c',hv',_,hor⟩:=ho.2 hl;rw[hv'] at e;obtain rfl:=A0 (AY e).1;rcases hor with h0| ⟨cur,hh⟩
   . omega
   . exact h.not hh (by decide) (by decide) (by decide)
theorem IR.apt{w:Ai}{P:Nat->Prop}{p:Ao}{s:DS}(h:Dk w P p s){B:Nat}{v:Ao}{l:List Int}(ho:IR w B v l):Apt P v:=by
 intro ad n cap e hn;rcases ho.2 with⟨hv,_⟩| ⟨g,c,cur,hv,_,hh,_⟩
 . rw[hv] at e;cases e
 . rw[hv] at e
   obtain rfl:=A0 (AY e).1;exact h.not hh (by decide) (by decide) (by decide)
theorem BBR.apart{w:Ai}{P:Nat->Prop}{p:Ao}{s:DS}(h:Dk w P p s){v:Ao}{L:List (List Int)}(ho:BBR w 0 v L):BBa w P v L:=by
 obtain⟨vs,hl,hr,ow⟩:=ho;rcases ow.2 with⟨hv,qr⟩| ⟨g,cap,cur,hv,hg,hh,Ii,Jq,Jr,ht⟩
 . exact AU ⟨hv,AO qr⟩
 . refine AW ⟨_,cap,hv,Ii,fun j hj=>⟨⟨(Ah.1 hh).1,h.not hh (by decide) (by decide) (by decide)⟩,rfl,vs.getD j undef,?_,(hr j hj).1,(hr j hj).apt h⟩⟩
   show w.cell? ⟨g,0+j,R⟩=_
   rw[Br,Aq _ _ _ _ _ _ hh];have:(cur.toList.take (L.length*1))[j]? =vs[j]? :=(by rw[ht]);rw[AZ,Au (by omega)] at this
   simpa [show j<vs.length by omega] using this
def TxVa(w:Ai)(P:Nat->Prop)(v:Ao)(q:Int)(N:List Int)(D:List (List Int)):Prop:=
 ∃ no nc ao dc,v=BN #[H .u32 q,V no N.length nc,V ao D.length dc]/\(ISc w (V no N.length nc) N/\Apt P (V no N.length nc))/\BBa w P (V ao D.length dc) D
theorem TxVa.v{w:Ai}{P:Nat->Prop}{v:Ao}{q:Int}{N:List Int}{D:List (List Int)}(h:TxVa w P v q N D):TxV w v q N D:=by
 obtain⟨no,nc,ao,dc,h1,h2,h3⟩:=h;exact⟨no,nc,ao,dc,h1,h2.1,h3.sl⟩
theorem TxVa.chg{P P':Nat->Prop}{w w':Ai}{v:Ao}{q:Int}{N:List Int}{D:List (List Int)}(h:TxVa w P v q N D)(hc:Chg P P' w w'):TxVa w' P' v q N D:=by
 obtain⟨no,nc,ao,dc,h1,h2,h3⟩:=h;exact⟨no,nc,ao,dc,h1,h2.1.chg h2.2 hc,h3.chg hc⟩
theorem TxVa.own{w:Ai}{P:Nat->Prop}{p:Ao}{s:DS}(h:Dk w P p s){q:Int}{vN vD:Ao}{N:List Int}{D:List (List Int)}(hN:IR w 0 vN N)(hD:BBR w 0 vD D):TxVa w P (BN #[H .u32 q,vN,vD]) q N D:=by
 have hN':=hN.isc;have hD':=hD.apart h;have ha:=hN.apt h;obtain⟨_,no,nc,rfl,_⟩:=hN';obtain⟨ao,dc,rfl,_⟩:=hD'.sl.shape;exact⟨no,nc,ao,dc,rfl,⟨hN.isc,ha⟩,hD'⟩
def OM(n:Nat)(N:List Int):Bool:=(Bu N.length).all fun k=>decide (N.getD k 0<(n:Int))
theorem J8(n:Nat)(N:List Int):OM n N=AE ↔ ∀ k,k<N.length->N.getD k 0<(n:Int):=by
 unfold OM;rw[Dh];exact⟨fun h k hk=>AX (h k (Bd.2 hk)),fun h k hk=>Az (h k (Bd.1 hk))⟩
theorem mE{n:Nat}{N:List Int}(k:Nat)(hk:k<N.length)(h:¬ N.getD k 0<(n:Int)):OM n N=Ay:=by
 cases e:OM n N
 . rfl
 . exact absurd ((J8 n N).1 e k hk) h
section
variable {w:Ai}{P:Nat->Prop}{p:Ao}{s:DS}
theorem PJ(h:Dk w P p s)(B:Bool)(hB:decide (64<=s.F.length)=B):Av Ae 159 #[p] w fun e w'=>e=Aj (AP B)/\w=w':=by
 have KB:=wM (Tu h);obtain⟨bp,rfl⟩:=h.ptr;generalize s.F.length=n at KB hB;have ti:decide ((64:Int)<=(n:Int))=B:=by rw[<- hB];exact decide_eq_decide.2 (by omega)
 have HB:=wM (Bt (fun b=>Aj (Ao.bool b)) ti);clear h hB ti;go_enter Tryz.func159,Tryz.ntmps159;go_wp2_with (go_at_call 134;(with_reducible refine KB.out.mono ?_);rintro e w2 ⟨rfl,rfl⟩)
 go_ret;exact⟨HB.out,rfl⟩
theorem Tn(h:Dk w P p s){v:Ao}{N:List Int}(hs:ISl w v N)(hN:N.length<=1000000)(B:Bool)(hB:OM s.F.length N=B):Av Ae 161 #[p,v] w fun e w'=>e=Aj (AP B)/\w=w':=by
 have KB:=wM (Tu h);obtain⟨bp,rfl⟩:=h.ptr;obtain⟨ao,cap,rfl,hc⟩:=hs.open';have CU:=fun k hk h=>mE (n:=s.F.length) (N:=N) k hk h
 have hyes:=(J8 s.F.length N).2;rw[hB] at CU hyes;generalize s.F.length=z at KB CU hyes;obtain⟨n,hn⟩:=nm N.length;rw[<- hn] at hc CU hyes hN |-
 have HC:=wM hc;have HNO:=wM CU;have HYE:=wM hyes;clear h hs hc CU hyes hB hn;go_enter Tryz.func161,Tryz.ntmps161;go_wp2
 go_loop [9] (fun i=>∃ k:Nat,k<=n/\i=H E k/\Hid (∀ j,j<k->N.getD j 0<(z:Int))) (fun i=>n-(intOf i).toNat)
 case atStart=>exact⟨0,by omega,rfl,fun j hj=>absurd hj (A9 _)⟩
 case round=>
  obtain⟨k,hk,rfl,HK⟩:=hrel;by_cases hlt:k<n
  . obtain⟨b,off,rfl,_,hcc⟩:=HC.out (by omega)
    have hck:=hcc k hlt;have FV:=HNO.out k hlt;obtain⟨x,hx⟩:=nm (N.getD k 0);rw[<- hx] at hck FV;have HX:=wM hx;have HN1:=wM FV;have ek:(k:Int)<(n:Int):=(by omega);clear hx hcc FV;by_cases hf:x<(z:Int)
    . have h1:¬ (z:Int)<=x:=by omega
      go_wp2_with (go_at_call 134;(with_reducible refine KB.out.mono ?_);rintro e w2 ⟨rfl,rfl⟩)
      go_round
      case rel=>
       refine⟨k+1,by omega,by go_num,fun j hj=>?_⟩;by_cases e:j=k
       . subst e;rw[<- HX.out];exact hf
       . exact HK.out j (by omega)
      case measure=>simp[intOf];omega
    . have h1:(z:Int)<=x:=by omega
      have hR:=HN1.out (by first|exact hf|exact h1);subst hR;go_wp2_with (go_at_call 134;(with_reducible refine KB.out.mono ?_);rintro e w2 ⟨rfl,rfl⟩)
      go_ret;exact⟨rfl,rfl⟩
  . obtain rfl:k=n:=by omega
    have hR:=HYE.out HK.out;subst hR;go_wp2;go_ret;exact⟨rfl,rfl⟩
def Gl(n:Nat)(N:List Int)(D:List (List Int)):Bool:=decide (64<=n) && (Gf N D && OM n N)
theorem RY(h:Dk w P p s){v:Ao}{q:Int}{N:List Int}{D:List (List Int)}(hv:TxV w v q N D)(B:Bool)(hB:Gl s.F.length N D=B):
 Av Ae 162 #[p,v] w fun e w'=>e=Aj (AP B)/\Ap w.heap.size w w':=by
 have hv':=hv;obtain⟨no,nc,ao,dc,rfl,hN,hD⟩:=hv;have KU:=wM (fun W (hb:Ap w.heap.size w W) B hB=>PJ (h.below hb) B hB);have KF:=wM (fun W (hb:Ap w.heap.size w W) B hB=>UR (hv'.below hb) B hB);have KH:=wM (fun(hY:Gf N D=AE) W (hb:Ap w.heap.size w W) B hB=>Tn (h.below hb) (hN.below hb).1 (by have:=(EJ hY).1;omega) B hB);obtain⟨bp,rfl⟩:=h.ptr;unfold Gl at hB;generalize s.F.length=z at KU KH hB;obtain⟨n,hn⟩:=nm N.length;obtain⟨m,hm⟩:=nm D.length;rw[<- hn,<- hm] at KF;rw[<- hn] at KH;rw[<- hn,<- hm];have hbx:=As w (S #[H .u32 q,V no n nc,V ao m dc] 215);have EN:=Ar w (S #[H .u32 q,V no n nc,V ao m dc] 215);clear hN hD hn hm hv' h;go_enter Tryz.func162,Tryz.ntmps162;go_upto_region 1 with(fail)
 generalize w.alloc (S #[H .u32 q,V no n nc,V ao m dc] 215)=u at hbx EN |-
 have KU1:=wM (KU.out _ hbx);have KF1:=wM (KF.out _ hbx);have d0:u.cell? ⟨w.heap.size,0,R⟩=I (H .u32 q):=by rw[Aq _ _ _ _ _ _ EN];rfl
 have d1:u.cell? ⟨w.heap.size,1,R⟩=I (V no n nc):=by rw[Aq _ _ _ _ _ _ EN];rfl
 have d2:u.cell? ⟨w.heap.size,2,R⟩=I (V ao m dc):=by rw[Aq _ _ _ _ _ _ EN];rfl
 have Ou:w.heap.size<u.heap.size:=(Ah.1 EN).1;have C1:=wM (fun W (h:Ap u.heap.size u W)=>(h.cell (p:=⟨w.heap.size,1,R⟩) Ou).trans d1);have HBT:=wM (fun W (h:Ap u.heap.size u W)=>hbx.trans (h.mono hbx.size));clear EN KU KF Ou hbx;generalize decide (64<=z)=X at hB KU1;obtain⟨Y,hFX⟩:∃ Y,Gf N D=Y:=⟨_,rfl⟩;obtain⟨Z,hHX⟩:∃ Z,OM z N=Z:=⟨_,rfl⟩;rw[hFX,hHX] at hB;rw[hFX] at KF1;have KH2:=wM (fun hY W hb=>KH.out hY W hb Z hHX);have KU2:=wM (KU1.out X rfl);have KF2:=wM (KF1.out Y rfl);have HFX:=wM hFX;clear KU1 KF1 KH hFX hHX;cases X
 . rw[Bool.false_and] at hB
   subst hB;go_wp2_with (go_at_call 159;(with_reducible refine KU2.out.mono ?_);rintro e w2 ⟨rfl,rfl⟩)
   go_ret;exact⟨rfl,HBT.out _ (AC _ _)⟩
 . cases Y
   . rw[Bool.false_and,AG] at hB
     subst hB
     go_wp2_with (first
      |(go_at_call 159;(with_reducible refine KU2.out.mono ?_);rintro e w2 ⟨rfl,rfl⟩)
      |(go_at_call 191;(with_reducible refine KF2.out.mono ?_);rintro e w3 ⟨rfl,hb3⟩))
     go_ret;exact⟨rfl,HBT.out _ hb3⟩
   . rw[AG,AG] at hB
     subst hB
     go_wp2_with (first
      |(go_at_call 159;(with_reducible refine KU2.out.mono ?_);rintro e w2 ⟨rfl,rfl⟩)
      |(go_at_call 191;(with_reducible refine KF2.out.mono ?_);rintro e w3 ⟨rfl,hb3⟩
        have e1:=C1.out _ hb3;have HB3:=wM (HBT.out _ hb3);clear hb3)
      |(go_at_call 161;(with_reducible refine(KH2.out HFX.out _ HB3.out).mono ?_);rintro e w4 ⟨rfl,rfl⟩))
     go_ret;exact⟨rfl,HB3.out⟩
end
theorem Chg.of_wrote1{w w':Ai}{g:Nat}(h:Wrote w w' g):Chg (fun b=>b=g) (fun b=>b=g) w w':=
 ⟨h.1,h.2.1,h.2.2.1,DU h.2.2.2.1.symm,fun k _ hn=>⟨h.2.2.2.2 k hn,hn⟩⟩
def RowA(w:Ai)(g:Nat)(P:Nat->Prop)(n:Nat)(D:List (List Int))(k:Nat):Prop:=
 ∃ vs:List Ao,vs.length=n/\w.heap[g]? =I (S vs.toArray 77 (0,0))/\∀ j,j<k->BSl w (vs.getD j undef) (D.getD j [])/\Apt P (vs.getD j undef)/\Apt (fun b=>b=g) (vs.getD j undef)
theorem RowA.make(w:Ai)(P:Nat->Prop)(n:Nat)(D:List (List Int)):RowA (w.alloc (S (AK n (V R 0 0)) 77)) w.heap.size P n D 0:=
 ⟨Aw n (V R 0 0),A3,by rw[Ar];simp,fun j hj=>absurd hj (A9 _)⟩
theorem RowA.row{w:Ai}{g n:Nat}{P:Nat->Prop}{D:List (List Int)}{k:Nat}(h:RowA w g P n D k):∃ vs:List Ao,vs.length=n/\w.heap[g]? =I (S vs.toArray 77 (0,0)):=by
 obtain⟨vs,h1,h2,_⟩:=h;exact⟨vs,h1,h2⟩
theorem RowA.below{w w':Ai}{g n:Nat}{P:Nat->Prop}{D:List (List Int)}{k:Nat}(h:RowA w g P n D k)(hb:Ap w.heap.size w w'):RowA w' g P n D k:=by
 obtain⟨vs,h1,h2,h3⟩:=h;have hg:g<w.heap.size:=(Ah.1 h2).1;exact⟨vs,h1,(hb.block g hg).trans h2,fun j hj=>⟨(h3 j hj).1.below hb,(h3 j hj).2⟩⟩
theorem RowA.set{w:Ai}{g n:Nat}{P:Nat->Prop}{D:List (List Int)}{k:Nat}(h:RowA w g P n D k)(hk:k<n){y:Ao}(hy:BSl w y (D.getD k []))(h1:Apt P y)(h2:Apt (fun b=>b=g) y):RowA (w.setCell ⟨g,k,R⟩ y) g P n D (k+1):=by
 obtain⟨vs,e1,e2,e3⟩:=h;have hc:=Chg.of_wrote1 (Wrote.setCell w g k y);refine⟨vs.set k y,by rw[AF];exact e1,i_ e2 k y,fun j hj=>?_⟩;by_cases e:j=k
 . subst e
   have e4:(vs.set j y).getD j undef=y:=(by simp[e1,hk]);rw[e4];exact⟨(hy.chg h2 hc).1,h1,h2⟩
 . have e4:(vs.set k y).getD j undef=vs.getD j undef:=by
    rw[An,Bp (by omega),<- An]
   rw[e4];obtain⟨m1,m2,m3⟩:=e3 j (by omega);exact⟨(m1.chg m3 hc).1,m2,m3⟩
theorem RowA.done{w:Ai}{g n:Nat}{P:Nat->Prop}{D:List (List Int)}(h:RowA w g P n D n)(hD:D.length=n)(hP:¬ P g):BBa w P (V (I ⟨g,0,R⟩) n n) D:=by
 obtain⟨vs,h1,h2,h3⟩:=h;subst hD;refine AW ⟨_,D.length,rfl,At _,fun j hj=>⟨⟨(Ah.1 h2).1,hP⟩,rfl,vs.getD j undef,?_,(h3 j hj).1,(h3 j hj).2.1⟩⟩;show w.cell? ⟨g,0+j,R⟩=_
 rw[Br,Aq _ _ _ _ _ _ h2];simp[show j<vs.length by omega]
section
variable {w:Ai}{P:Nat->Prop}{p:Ao}{s:DS}
theorem V8(h:Dk w P p s)(OP:64<=s.F.length)(hd:s.dn=Ay):
 Av Ae 120 #[p] w fun e w'=>∃ ao cap,e=Aj (AH #[V ao 40 cap,H E 0])/\BBa w' P (V ao 40 cap) (Ey s.vis)/\Ap w.heap.size w w':=by
 have hlt:=fun k hk=>h.lt k hk
 have KU:=wM (PJ h AE (Az OP));have MV:(Ey s.vis).length=40:=EC (by rw[DS.vis_length];omega);have KR:=wM (fun W (hb:Ap w.heap.size w W) (k:Nat) (hk:k<40)=>(tT (h.below hb) (3+k) (by omega) hd));have HJ:=wM (fun(k:Nat) (hk:k<40)=>Hp s.vis k hk);have HDN:=wM (fun W (hr:RowA W w.heap.size P 40 (Ey s.vis) 40)=>hr.done MV (fun hp=>Nat.lt_irrefl _ (hlt _ hp)));obtain⟨bp,rfl⟩:=h.ptr;obtain⟨D,hD⟩:=nm (Ey s.vis);rw[<- hD] at HJ HDN |-
 have HLT:=wM hlt;have hbx:=As w (S (AK 40 (V R 0 0)) 77);have Il:=RowA.make w P 40 D;clear h OP hd MV hD hlt;go_enter Tryz.func120,Tryz.ntmps120
 go_wp2_with (first
  |(go_at_call 159;(with_reducible refine KU.out.mono ?_);rintro e w2 ⟨rfl,rfl⟩)
  |(at_make;refine Kh w rfl _ _ rfl (40:Int) 40 rfl rfl rfl (by omega) ?_))
 generalize w.alloc (S (AK 40 (V R 0 0)) 77)=w1 at hbx Il |-
 have HR0:=wM Il;have HBX:=wM hbx;obtain⟨g,hg⟩:=nm w.heap.size;rw[<- hg] at HR0 HDN |-
 have HG:=wM hg;clear Il hbx hg;go_loopw [14] (fun i wr=>∃ k:Nat,k<=40/\i=H E k/\Hid (RowA wr g P 40 D k)/\Hid (Ap w.heap.size w wr)) (fun i _=>40-(intOf i).toNat)
 case atStart=>exact⟨0,by omega,rfl,HR0,HBX⟩
 case round=>
  obtain⟨k,hk,rfl,HR,HB⟩:=hrel;clear HR0 HBX;by_cases hlt:k<40
  . have KC:=wM (KR.out _ HB.out k hlt)
    have ek:(k:Int)<40:=(by omega);have e3:((3+k:Nat):Int)=3+(k:Int):=(by push_cast;rfl);rw[e3] at KC;clear e3
    go_wp2_with (go_at_call 146;(with_reducible refine KC.out.mono ?_);rintro e w2 ⟨y,rfl,hoy,hb2,hy⟩
                 have Ed:=HB.out.size;have hr2:=HR.out.below hb2;have HA1:Hid (Apt P y):=wM (by rw[hy];exact Apt.new (fun hp=>by have:=HLT.out _ hp;omega));have HA2:Hid (Apt (fun b=>b=g) y):=wM (by
                  rw[hy];refine Apt.new (fun hp=>?_);obtain⟨vs,_,hvr⟩:=HR.out.row;have:=(Ah.1 hvr).1;omega)
                 rw[<- HJ.out k hlt] at hoy;obtain⟨yo,yc,hys,_⟩:=hoy.shape;have HY:=wM hoy;subst hys;generalize (D.getD k []).length=yl at HY HA1 HA2 |-
                 clear hy hoy;have HR2:=wM hr2;obtain⟨vs2,lJ,ZJ⟩:=hr2.row;have hf2:=aF ZJ k;have hc2:∃ z,w2.cell? ⟨g,k,R⟩=I z:=⟨vs2[k]'(by omega),by rw[Aq _ _ _ _ _ _ ZJ];simp[lJ,hlt]⟩;obtain⟨z,hz⟩:=hc2;have HB2:=wM (HB.out.trans (hb2.mono HB.out.size));clear hr2 lJ ZJ hb2 Ed)
    go_roundw
    case rel=>exact⟨k+1,by omega,by go_num,HR2.out.set hlt HY.out HA1.out HA2.out,(HB2.out.trans ((Wrote.setCell w2 g k _).below (by rw[HG.out];exact At _)))⟩
    case measure=>simp[intOf];omega
  . obtain rfl:k=40:=by omega
    go_wp2;go_ret2;exact⟨_,_,rfl,HDN.out _ HR.out,HB.out⟩
end
theorem Rv{L:List (List Int)}{q q':Int}{N N':List Int}{D D':List (List Int)}(h:Io L q N D)(h':Io L q' N' D'):q=q'/\N=N'/\D=D':=by
 obtain⟨rfl,rfl⟩:=Qm h.1.2 h'.1.2;exact⟨rfl,rfl,h.2.2.2.1.symm.trans h'.2.2.2.1⟩
theorem Nu{L:List (List Int)}{q:Int}{N:List Int}{D:List (List Int)}(h:Io L q N D):Gf N D=AE/\0<=q/\q<4294967296:=by
 obtain⟨⟨h0,hN,⟨q0,q1⟩,_⟩,hl,_,hD,hw⟩:=h;refine⟨?_,q0,q1⟩;rw[Jf,hN,hw,Az]
 . rfl
 . rw[<- hD,AJ,Bn];omega
def Pa(n:Nat)(L:List (List Int))(q:Int)(N:List Int)(D:List (List Int)):Prop:=Io L q N D/\OM n N=AE
section
variable {w:Ai}{P:Nat->Prop}{p:Ao}{s:DS}
theorem VL(h:Dk w P p s){v:Ao}{L:List (List Int)}(hs:BBSl w v L)(hL:L.length<=1000000){q:Int}{N:List Int}{D:List (List Int)}(ht:Pa s.F.length L q N D):
 Av Ae 121 #[p,v] w fun e w'=>∃ vN vD,e=Aj (AH #[BN #[H .u32 q,vN,vD],AP AE])/\IR w' 0 vN N/\BBR w' 0 vD D/\Ap w.heap.size w w':=by
 obtain⟨ht,hh⟩:=ht;have JJ:N.length<=37:=(EJ (Nu ht).1).1;have hbx:=As w (S #[H .u32 0,V R 0 0,V R 0 0] 215);have EN:=Ar w (S #[H .u32 0,V R 0 0,V R 0 0] 215)
 have KU:=wM (fun W (hb:Ap w.heap.size w W)=>show Av Ae 160 #[v] W fun e w'=>∃ vN vD,e=Aj (AH #[BN #[H .u32 q,vN,vD],AP AE])/\IR w' 0 vN N/\BBR w' 0 vD D/\Ap W.heap.size W w' from
  (Kd (hs.below hb) hL).mono fun e w' ⟨hb,hc⟩=>by
    rcases hc with⟨q',N',D',vN,vD,ht',he,h1,h2⟩| ⟨CU,_⟩
    . obtain⟨rfl,rfl,rfl⟩:=Rv ht ht'
      exact⟨vN,vD,he,h1,h2,hb⟩
    . exact absurd ht (CU _ _ _))
 have KH:=wM (fun W (hb:Ap w.heap.size w W) vN (hN:IR W 0 vN N)=>Tn (h.below hb) hN.sl (by omega) AE hh);obtain⟨bp,rfl⟩:=h.ptr;obtain⟨vo,vc,rfl,_⟩:=hs.shape;generalize L.length=y at KU |-
 clear h hs hL ht hh JJ;go_enter Tryz.func121,Tryz.ntmps121;go_upto_region 1 with(fail)
 have Ou:w.heap.size<(w.alloc (S #[H .u32 0,V R 0 0,V R 0 0] 215)).heap.size:=by simp
 generalize w.alloc (S #[H .u32 0,V R 0 0,V R 0 0] 215)=w1 at hbx EN Ou |-
 go_wp2_with (first
  |(go_at_call 160;(with_reducible refine(KU.out _ hbx).mono ?_);rintro e w2 ⟨vN,vD,rfl,hN2,hD2,hb2⟩
    obtain⟨_,no,nc,rfl,_⟩:=hN2.isc;obtain⟨ao,dc,rfl,_⟩:=hD2.sl.shape;have JK:=Ar w2 (S #[H .u32 0,V R 0 0,V R 0 0] 215);have hbs:=As w2 (S #[H .u32 0,V R 0 0,V R 0 0] 215);have HN3:=wM (hN2.below hbs);have HD3:=wM (hD2.below hbs);have HB2:=wM hb2;generalize hnn:N.length=n at HN3 |-
    generalize hmm:D.length=m at HD3 |-
    clear hN2 hD2 hnn hmm)
  |(with_reducible refine BD rfl 215 EG (.tmp 6) (.tmp 11) rfl w2.heap.size rfl _ _ _ _ _ _ rfl rfl rfl rfl _ JK ?_;intro w4 hw4 hr4
    have hb4:=hbs.trans (hw4.below (At _));have hb14:=HB2.out.trans (hb4.mono HB2.out.size);have Il:=JZ EN hb14;have HB4:=wM (hbx.trans (hb14.mono hbx.size));have x0:w4.cell? ⟨w2.heap.size,0,R⟩=I (H .u32 q):=(by rw[Aq _ _ _ _ _ _ hr4];rfl);have x1:w4.cell? ⟨w2.heap.size,1,R⟩=I (V no n nc):=(by rw[Aq _ _ _ _ _ _ hr4];rfl);have x2:w4.cell? ⟨w2.heap.size,2,R⟩=I (V ao m dc):=(by rw[Aq _ _ _ _ _ _ hr4];rfl);have HN4:=wM (HN3.out.wrote hw4 JK (by decide));have HD4:=wM (HD3.out.wrote hw4 (AT _) JK (by decide) (by decide));clear JK hbs hw4 hb4 hb14 HN3 HD3 hr4)
  |(go_at_call 161;(with_reducible refine(KH.out _ HB4.out _ HN4.out).mono ?_);rintro e w5 ⟨rfl,rfl⟩)
  |(with_reducible refine BD rfl 215 EG (.tmp 4) (.tmp 23) rfl w.heap.size rfl _ _ _ _ _ _ rfl rfl rfl rfl _ Il ?_;intro w9 hw9 hr9))
 refine AS (DI rfl Tryz.underlying215 EG _ _ w.heap.size _ _ _ _ _ rfl hr9 rfl) rfl ⟨_,_,rfl,?_,?_,HB4.out.trans (hw9.below (At _))⟩
 . exact HN4.out.wrote hw9 Il (by decide)
 . exact HD4.out.wrote hw9 (AT _) Il (by decide) (by decide)
theorem Xo(h:Dk w P p s){v:Ao}{L:List (List Int)}(hs:BBSl w v L)(hL:L.length<=1000000)(CU:∀ q N D,¬ Pa s.F.length L q N D):
 Av Ae 121 #[p,v] w fun e w'=>e=Aj (AH #[BN #[H .u32 0,V R 0 0,V R 0 0],AP Ay])/\Ap w.heap.size w w':=by
 by_cases hex:∃ q N D,Io L q N D
 . obtain⟨q,N,D,ht⟩:=hex
   have hh:OM s.F.length N=Ay:=by
    cases e:OM s.F.length N
    . rfl
    . exact absurd ⟨ht,e⟩ (CU q N D)
   have JJ:N.length<=37:=(EJ (Nu ht).1).1;have hbx:=As w (S #[H .u32 0,V R 0 0,V R 0 0] 215);have EN:=Ar w (S #[H .u32 0,V R 0 0,V R 0 0] 215)
   have KU:=wM (fun W (hb:Ap w.heap.size w W)=>show Av Ae 160 #[v] W fun e w'=>∃ vN vD,e=Aj (AH #[BN #[H .u32 q,vN,vD],AP AE])/\IR w' 0 vN N/\BBR w' 0 vD D/\Ap W.heap.size W w' from
    (Kd (hs.below hb) hL).mono fun e w' ⟨hb,hc⟩=>by
      rcases hc with⟨q',N',D',vN,vD,ht',he,h1,h2⟩| ⟨CU,_⟩
      . obtain⟨rfl,rfl,rfl⟩:=Rv ht ht'
        exact⟨vN,vD,he,h1,h2,hb⟩
      . exact absurd ht (CU _ _ _))
   have KH:=wM (fun W (hb:Ap w.heap.size w W) vN (hN:IR W 0 vN N)=>Tn (h.below hb) hN.sl (by omega) Ay hh);obtain⟨bp,rfl⟩:=h.ptr;obtain⟨vo,vc,rfl,_⟩:=hs.shape;generalize L.length=y at KU |-
   clear h hs hL ht hh JJ CU;go_enter Tryz.func121,Tryz.ntmps121;go_upto_region 1 with(fail)
   have Ou:w.heap.size<(w.alloc (S #[H .u32 0,V R 0 0,V R 0 0] 215)).heap.size:=(by simp);generalize w.alloc (S #[H .u32 0,V R 0 0,V R 0 0] 215)=w1 at hbx EN Ou |-
   go_wp2_with (first
    |(go_at_call 160;(with_reducible refine(KU.out _ hbx).mono ?_);rintro e w2 ⟨vN,vD,rfl,hN2,hD2,hb2⟩
      obtain⟨_,no,nc,rfl,_⟩:=hN2.isc;obtain⟨ao,dc,rfl,_⟩:=hD2.sl.shape;have JK:=Ar w2 (S #[H .u32 0,V R 0 0,V R 0 0] 215);have hbs:=As w2 (S #[H .u32 0,V R 0 0,V R 0 0] 215);have HN3:=wM (hN2.below hbs);have HB2:=wM hb2;generalize hnn:N.length=n at HN3 |-
      generalize hmm:D.length=m at |-
      clear hN2 hD2 hnn hmm)
    |(with_reducible refine BD rfl 215 EG (.tmp 6) (.tmp 11) rfl w2.heap.size rfl _ _ _ _ _ _ rfl rfl rfl rfl _ JK ?_;intro w4 hw4 hr4
      have hb4:=hbs.trans (hw4.below (At _));have hb14:=HB2.out.trans (hb4.mono HB2.out.size);have Il:=JZ EN hb14;have HB4:=wM (hbx.trans (hb14.mono hbx.size));have x1:w4.cell? ⟨w2.heap.size,1,R⟩=I (V no n nc):=(by rw[Aq _ _ _ _ _ _ hr4];rfl);have HN4:=wM (HN3.out.wrote hw4 JK (by decide));clear JK hbs hw4 hb4 hb14 HN3 hr4)
    |(go_at_call 161;(with_reducible refine(KH.out _ HB4.out _ HN4.out).mono ?_);rintro e w5 ⟨rfl,rfl⟩)
    |(with_reducible refine BD rfl 215 EG (.tmp 4) (.tmp 22) rfl w.heap.size rfl _ _ _ _ _ _ rfl rfl rfl rfl _ Il ?_;intro w9 hw9 hr9))
   refine AS (DI rfl Tryz.underlying215 EG _ _ w.heap.size _ _ _ _ _ rfl hr9 rfl) rfl ⟨rfl,HB4.out.trans (hw9.below (At _))⟩
 . have L1:∀ q N D,¬ Io L q N D:=fun q N D ht=>hex ⟨q,N,D,ht⟩
   have hbx:=As w (S #[H .u32 0,V R 0 0,V R 0 0] 215);have EN:=Ar w (S #[H .u32 0,V R 0 0,V R 0 0] 215)
   have KU:=wM (fun W (hb:Ap w.heap.size w W)=>show Av Ae 160 #[v] W fun e w'=>e=Aj (AH #[BN #[H .u32 0,V R 0 0,V R 0 0],AP Ay])/\Ap W.heap.size W w' from
    (Kd (hs.below hb) hL).mono fun e w' ⟨hb,hc⟩=>by
      rcases hc with⟨q',N',D',vN,vD,ht',he,h1,h2⟩| ⟨_,he⟩
      . exact absurd ht' (L1 _ _ _)
      . exact⟨he,hb⟩)
   obtain⟨bp,rfl⟩:=h.ptr;obtain⟨vo,vc,rfl,_⟩:=hs.shape;generalize L.length=y at KU |-
   clear h hs hL CU L1 hex;go_enter Tryz.func121,Tryz.ntmps121;go_upto_region 1 with(fail)
   generalize w.alloc (S #[H .u32 0,V R 0 0,V R 0 0] 215)=w1 at hbx EN |-
   go_wp2_with (first
    |(go_at_call 160;(with_reducible refine(KU.out _ hbx).mono ?_);rintro e w2 ⟨rfl,hb2⟩
      have JK:=Ar w2 (S #[H .u32 0,V R 0 0,V R 0 0] 215);have hbs:=As w2 (S #[H .u32 0,V R 0 0,V R 0 0] 215);have HB2:=wM hb2)
    |(with_reducible refine BD rfl 215 EG (.tmp 6) (.tmp 11) rfl w2.heap.size rfl _ _ _ _ _ _ rfl rfl rfl rfl _ JK ?_;intro w4 hw4 hr4
      have hb4:=hbs.trans (hw4.below (At _));have hb14:=HB2.out.trans (hb4.mono HB2.out.size);have Il:=JZ EN hb14;have HB4:=wM (hbx.trans (hb14.mono hbx.size));clear JK hbs hw4 hb4 hb14 hr4)
    |(with_reducible refine BD rfl 215 EG (.tmp 4) (.tmp 22) rfl w.heap.size rfl _ _ _ _ _ _ rfl rfl rfl rfl _ Il ?_;intro w9 hw9 hr9))
   refine AS (DI rfl Tryz.underlying215 EG _ _ w.heap.size _ _ _ _ _ rfl hr9 rfl) rfl ⟨rfl,HB4.out.trans (hw9.below (At _))⟩
end
theorem Ej(a:PA)(A:List PA)(s:DS):BC (a :: A) s=if s.ok=AE then BC A (a.run s) else (2,s.pay):=rfl
theorem EE:∀ (A B:List PA) (s:DS),BC (A ++ B) s=if (BC A s).1=0 then BC B (BC A s).2 else BC A s
 |[],B,s=>by
  show BC B s=if (0:Int)=0 then BC B s else _
  rw[Au rfl]
 |a :: A,B,s=>by
  rw[List.cons_append,Ej,Ej];by_cases h:s.ok=AE
  . rw[Au h,Au h];exact EE A B _
  . rw[Ax h,Ax h,Ax (by show ¬ (2:Int)=0;decide)]
theorem GC{X:List PA}{a:PA}{s:DS}(h:(BC X s).1=0)(hok:(BC X s).2.ok=AE):BC (X ++ [a]) s=(0,a.run (BC X s).2):=by
 rw[EE,Au h,Ej,Au hok];rfl
theorem R5{X Y:List PA}{a:PA}{s:DS}(h:(BC X s).1=0)(hok:(BC X s).2.ok=Ay):BC (X ++ a :: Y) s=(2,(BC X s).2.pay):=by
 rw[EE,Au h,Ej,Ax (by rw[hok];decide)]
theorem FD:∀ (A:List PA) (s:DS),(BC A s).2.F.length=s.F.length/\(BC A s).2.U.length<=s.U.length+A.length
 |[],s=>⟨rfl,At _⟩
 |a :: A,s=>by
  unfold BC;by_cases h:s.ok=AE
  . rw[Au h]
    obtain⟨h1,h2⟩:=FD A (a.run s);cases a with
    |w n l=>
     have e1:(PA.run s (.w n l)).F.length=s.F.length:=rfl;have e2:(PA.run s (.w n l)).U.length=s.U.length+1:=(by show(s.U ++ [(n,l)]).length=_;simp);exact⟨h1.trans e1,by simp only[Bm];omega⟩
    |f=>
     have e1:(PA.run s .f).F.length=s.F.length:=DS.vis_length s;have e2:(PA.run s .f).U.length=0:=rfl;exact⟨h1.trans e1,by simp only[Bm];omega⟩
  . rw[Ax h]
    exact⟨rfl,Nat.le_add_right _ _⟩
def RunQ(A:List PA)(w:Ai)(P:Nat->Prop)(p:Ao)(s:DS)(e:Ending)(w':Ai):Prop:=
 e=Aj (H E (BC A s).1)/\∃ P',Dk w' P' p (BC A s).2/\Chg P P' w w'
theorem RunQ.stop{X Y:List PA}{a:PA}{w W:Ai}{P P':Nat->Prop}{p:Ao}{s:DS}(h:(BC X s).1=0)(hok:(BC X s).2.ok=Ay)(hd:Dk W P' p (BC X s).2.pay)(hc:Chg P P' w W):RunQ (X ++ a :: Y) w P p s (Aj (H E 2)) W:=by
 unfold RunQ;rw[R5 h hok];exact⟨rfl,P',hd,hc⟩
theorem RunQ.done{X:List PA}{w W:Ai}{P P':Nat->Prop}{p:Ao}{s:DS}(h:(BC X s).1=0)(hd:Dk W P' p (BC X s).2)(hc:Chg P P' w W):RunQ X w P p s (Aj (H E 0)) W:=by
 unfold RunQ;rw[h];exact⟨rfl,P',hd,hc⟩
theorem Chg.cell{P P':Nat->Prop}{w w':Ai}(h:Chg P P' w w'){g i:Nat}(hg:g<w.heap.size)(hn:¬ P g):w'.cell? ⟨g,i,R⟩=w.cell? ⟨g,i,R⟩:=
 A5 (a:=⟨g,i,R⟩) (h.keep g hg hn).1
theorem ez(N:List Int)(D:List (List Int))(k:Nat)(hk:k<N.length):B7 N D=(B7 N D).take k ++ .w (N.getD k 0).toNat (D.getD k []) :: (B7 N D).drop (k+1)/\(B7 N D).take (k+1)=(B7 N D).take k ++ [.w (N.getD k 0).toNat (D.getD k [])]:=by
 have hl:k<(B7 N D).length:=by rw[Fh];exact hk
 have e:(B7 N D)[k]=.w (N.getD k 0).toNat (D.getD k []):=by simp[B7,Ci]
 refine⟨?_,?_⟩
 . rw[<- e,List.getElem_cons_drop,Fw]
 . rw[Bz hl,e]
section
variable {w:Ai}{P:Nat->Prop}{p:Ao}{s:DS}
theorem Sc(h:Dk w P p s){v:Ao}{q:Int}{N:List Int}{D:List (List Int)}(hv:TxVa w P v q N D)(hB:Gl s.F.length N D=AE)(hU:s.U.length<=900000):
 Av Ae 122 #[p,v] w (RunQ (B7 N D) w P p s):=by
 have hv':=hv;obtain⟨no,nc,ao,dc,rfl,hN,hD⟩:=hv;have hB':=hB;unfold Gl at hB';rw[AQ,AQ] at hB';obtain⟨_,hF,hH⟩:=hB';obtain⟨f1,f2,f3⟩:=EJ hF;have hH':=(J8 _ _).1 hH;have KT:=wM (fun W (hb:Ap w.heap.size w W)=>RY (h.below hb) (hv'.v.below hb) AE hB);have hlt:=fun k hk=>h.lt k hk
 have HD0:=wM (fun W (hb:Ap w.heap.size w W)=>h.below hb);have hlen:=fun k=>FD ((B7 N D).take k) s
 have KW:=wM (fun k (hk:k<N.length) W Pk (hd:Dk W Pk p (BC ((B7 N D).take k) s).2) v (hv:BSl W v (D.getD k []))=>iW hd (N.getD k 0).toNat (by
  have h1:=hH' k hk;have h2:=(f3 k hk).1;have h3:=(hlen k).1;omega) hv (f3 k hk).2.1 (by
  have h1:=(hlen k).2;rw[AJ,Fh] at h1;omega))
 have HNK:=wM (fun k (hk:k<N.length)=>show N.getD k 0=((N.getD k 0).toNat:Int) by have:=(f3 k hk).1;omega);have HL:=wM (fun k (hk:k<N.length)=>(f3 k hk).2.1);have HNC:=wM (fun W P' (hc:Chg P P' w W)=>(hN.1.1.chg hN.2 hc).1.open');have HDC:=wM (fun W P' (hc:Chg P P' w W)=>(hD.chg hc).sl.open');have HG:=wM (fun k hk=>ez N D k hk);have HFULL:Hid ((B7 N D).take N.length=B7 N D):=wM (AR (by rw[Fh];exact At _));obtain⟨bp,rfl⟩:=h.ptr;obtain⟨A,hA⟩:=nm (B7 N D);rw[<- hA] at KW HG HFULL |-
 obtain⟨n,hn⟩:=nm N.length;have mh:D.length=n:=f2.trans hn.symm;rw[<- hn] at KT KW HNK HL HNC HG HFULL f1 |-
 rw[mh] at KT HDC |-
 have hbx:=As w (S #[H .u32 q,V no n nc,V ao n dc] 215);have EN:=Ar w (S #[H .u32 q,V no n nc,V ao n dc] 215);clear h hN hD hv' hB hF hH hH' hlen f2 f3 hA hn mh;go_enter Tryz.func122,Tryz.ntmps122;go_upto_region 1 with(fail)
 generalize w.alloc (S #[H .u32 q,V no n nc,V ao n dc] 215)=u at hbx EN |-
 have KT1:=wM (KT.out _ hbx);have d0:u.cell? ⟨w.heap.size,0,R⟩=I (H .u32 q):=by rw[Aq _ _ _ _ _ _ EN];rfl
 have d1:u.cell? ⟨w.heap.size,1,R⟩=I (V no n nc):=by rw[Aq _ _ _ _ _ _ EN];rfl
 have d2:u.cell? ⟨w.heap.size,2,R⟩=I (V ao n dc):=by rw[Aq _ _ _ _ _ _ EN];rfl
 have Ou:w.heap.size<u.heap.size:=(Ah.1 EN).1;obtain⟨d,hd⟩:=nm w.heap.size;have HND:Hid (¬ P d):=wM (fun hp=>by have:=hlt _ hp;omega);have HBX:=wM hbx;rw[<- hd] at d0 d1 d2 Ou |-
 clear EN KT hbx hlt hd
 go_wp2_with (go_at_call 162;(with_reducible refine KT1.out.mono ?_);rintro e w2 ⟨rfl,hb2⟩
              have HB2:=wM (HBX.out.trans (hb2.mono HBX.out.size));have g1:=(hb2.cell (p:=⟨d,1,R⟩) Ou).trans d1;have g2:=(hb2.cell (p:=⟨d,2,R⟩) Ou).trans d2;have hz2:=AA Ou hb2.size;clear hb2)
 have HC1:=wM (fun W P' (hc:Chg P P' w2 W)=>(hc.cell (i:=1) hz2 HND.out).trans g1);have HC2:=wM (fun W P' (hc:Chg P P' w2 W)=>(hc.cell (i:=2) hz2 HND.out).trans g2);have HCW:=wM (fun W P' (hc:Chg P P' w2 W)=>(Chg.of_below (P:=P) HB2.out).trans hc);have HST:Hid (∃ Pk,Dk w2 Pk (Al (I ⟨bp,0,R⟩)) (BC (A.take 0) s).2/\Chg P Pk w2 w2):=wM ⟨P,HD0.out _ HB2.out,Chg.refl P w2⟩;clear g1 g2 hz2 d0 d1 d2 Ou KT1;go_loopw [15] (fun i wr=>∃ k:Nat,k<=n/\i=H E k/\Hid ((BC (A.take k) s).1=0)/\Hid (∃ Pk,Dk wr Pk (Al (I ⟨bp,0,R⟩)) (BC (A.take k) s).2/\Chg P Pk w2 wr)) (fun i _=>n-(intOf i).toNat)
 case atStart=>exact⟨0,by omega,rfl,wM (by rw[List.take_zero];rfl),HST⟩
 case round=>
  obtain⟨k,hk,rfl,HR,HS⟩:=hrel;clear HST;obtain⟨Pk,hdk,hck⟩:=HS.out;by_cases hlt:k<n
  . have y1:=HC1.out _ _ hck
    have y2:=HC2.out _ _ hck;obtain⟨no',nc',e1,q1⟩:=HNC.out _ _ (HCW.out _ _ hck);obtain⟨rfl,rfl⟩:=And.intro (AY e1).1 (AY e1).2.2;obtain⟨b1,o1,rfl,_,c1⟩:=q1 (by omega);have z1:=c1 k hlt;rw[HNK.out k hlt] at z1;obtain⟨ao',dc',e2,_,q2⟩:=HDC.out _ _ (HCW.out _ _ hck);obtain⟨rfl,rfl⟩:=And.intro (AY e2).1 (AY e2).2.2;obtain⟨b2,o2,rfl,_,c2⟩:=q2 (by omega);obtain⟨x,z2,hx⟩:=c2 k hlt;have KC:=wM (KW.out k hlt _ _ hdk _ hx);obtain⟨xo,xc,rfl,_⟩:=hx.shape;rw[HL.out k hlt] at z2 KC;have ek:(k:Int)<(n:Int):=(by omega);have HGK:=wM (HG.out k hlt);obtain⟨x1,hx1⟩:=nm ((N.getD k 0).toNat);rw[<- hx1] at z1 KC HGK;clear hx1;have HCK:=wM hck;clear e1 e2 q1 q2 c1 c2 hx hdk hck;cases hok:(BC (A.take k) s).2.ok
    . rw[hok,Ax CF,Ax CF] at KC
      have HOK:=wM hok;clear hok;go_wp2_with (go_at_call 163;(with_reducible refine KC.out.mono ?_);rintro e w3 ⟨rfl,P3,bi,hc3⟩)
      go_ret;rw[HGK.out.1];exact RunQ.stop HR.out HOK.out bi (HCW.out _ _ (HCK.out.trans hc3))
    . rw[hok,Au rfl,Au rfl] at KC
      have HOK:=wM hok;clear hok;go_wp2_with (go_at_call 163;(with_reducible refine KC.out.mono ?_);rintro e w3 ⟨rfl,P3,bi,hc3⟩)
      go_roundw
      case rel=>
       have e5:=HGK.out.2;refine⟨k+1,by omega,by go_num,wM ?_,wM ⟨P3,?_,HCK.out.trans hc3⟩⟩
       . rw[e5,GC HR.out HOK.out]
       . rw[e5,GC HR.out HOK.out];exact bi
      case measure=>simp[intOf];omega
  . obtain rfl:k=n:=by omega
    clear HG;go_wp2;go_ret;rw[HFULL.out] at HR HS;obtain⟨Pk,hdk,hck⟩:=HS.out;exact RunQ.done HR.out hdk (HCW.out _ _ hck)
end
def Jz(at':Nat)(bs:List (List Int)):List PA:=(Bu bs.length).map fun i=>.w (at'+i) (bs.getD i [])
def F6(St:List (Nat × List (List Int))):List PA:=St.flatMap fun x=>Jz x.1 x.2 ++ [.f]
theorem Hz(at':Nat)(bs:List (List Int)):(Jz at' bs).length=bs.length:=by simp[Jz]
theorem o3(at':Nat)(bs:List (List Int))(k:Nat)(hk:k<bs.length):Jz at' bs=(Jz at' bs).take k ++ .w (at'+k) (bs.getD k []) :: (Jz at' bs).drop (k+1)/\(Jz at' bs).take (k+1)=(Jz at' bs).take k ++ [.w (at'+k) (bs.getD k [])]:=by
 have hl:k<(Jz at' bs).length:=by rw[Hz];exact hk
 have e:(Jz at' bs)[k]=.w (at'+k) (bs.getD k []):=by simp[Jz]
 refine⟨?_,?_⟩
 . rw[<- e,List.getElem_cons_drop,Fw]
 . rw[Bz hl,e]
theorem Om(A B:List (Nat × List (List Int))):F6 (A ++ B)=F6 A ++ F6 B:=DW
theorem Hi(x:Nat × List (List Int))(B:List (Nat × List (List Int))):F6 (x :: B)=Jz x.1 x.2 ++ [.f] ++ F6 B:=CD
theorem UG:F6 []=[]:=rfl
theorem Vz(St:List (Nat × List (List Int)))(j:Nat)(hj:j<St.length):
 F6 St=F6 (St.take j) ++ (Jz (St.getD j (0,[])).1 (St.getD j (0,[])).2 ++ [.f] ++ F6 (St.drop (j+1)))/\
 F6 (St.take (j+1))=F6 (St.take j) ++ (Jz (St.getD j (0,[])).1 (St.getD j (0,[])).2 ++ [.f]):=by
 have e:St.getD j (0,[])=St[j]:=by simp[hj]
 rw[e];refine⟨?_,?_⟩
 . conv=>lhs;rw[<- Fw j St]
   rw[IK hj,Om,Hi]
 . rw[Bz hj,Om,Hi,UG,BW]
def qP(St:List (Nat × List (List Int))):Nat:=(F6 St).length
theorem rA:(Ae.info? 268).map (·.size)=I 2:=by kernel_rfl
theorem OO{ops:Array BE}{rest:List BE}{o:BE}{a:Act}{w:Ai}{Q:Exit->Act->Ai->Prop}(Du:o.guard=R)(ty:Cg)(hi:(Ae.info? ty).map (·.size)=I 2)(x y:Operand)(ho:o.op=.store ty x y)
 (g:Nat) (hx:a.eval x=Al (I ⟨g,0,R⟩)) (p q p' q':Ao) (hy:a.eval y=BN #[p,q]) (hp:p.oneCell'=AE) (hq:q.oneCell'=AE) (T:Cg) (hg:w.heap[g]? =I (S #[p',q'] T (0,0)))
 (h:∀ w',Wrote w w' g->w'.heap[g]? =I (S #[p,q] T (0,0))->Cf Ae ops Q rest (a.put o.dst undef) w'):Cf Ae ops Q (o :: rest) a w:=
 C0 Du ty x y ho g #[p,q] hx hy T _ hg hi rfl (by simp[hp,hq]) (h _ (Wrote.setRow _ _ _) (CC _ _ _ _ _ _ hg))
def StSl(w:Ai)(P:Nat->Prop)(b off:Nat)(St:List (Nat × List (List Int))):Prop:=
 b<w.heap.size/\¬ P b/\∀ j,j<St.length->∃ ao dc,w.cell? ⟨b,off+j*2,R⟩=I (H E ((St.getD j (0,[])).1:Nat))/\w.cell? ⟨b,off+j*2+1,R⟩=I (V ao (St.getD j (0,[])).2.length dc)/\
  BBa w P (V ao (St.getD j (0,[])).2.length dc) (St.getD j (0,[])).2
theorem StSl.chg{w w':Ai}{P P':Nat->Prop}{b off:Nat}{St:List (Nat × List (List Int))}(h:StSl w P b off St)(hc:Chg P P' w w'):StSl w' P' b off St:=by
 obtain⟨h1,h2,h3⟩:=h;refine⟨AA h1 hc.size,(hc.keep b h1 h2).2,fun j hj=>?_⟩;obtain⟨ao,dc,m1,m2,m3⟩:=h3 j hj;exact⟨ao,dc,(hc.cell h1 h2).trans m1,(hc.cell h1 h2).trans m2,m3.chg hc⟩
section
variable {w:Ai}{P:Nat->Prop}{p:Ao}{s:DS}
theorem o9(h:Dk w P p s){b off cap:Nat}{St:List (Nat × List (List Int))}(hs:StSl w P b off St)(hU:s.U.length<=900000)(hSt:qP St<=1000)(hn4:St.length<=1000)
 (hok:∀ j,j<St.length->∀ i,i<(St.getD j (0,[])).2.length->(St.getD j (0,[])).1+i<s.F.length/\((St.getD j (0,[])).2.getD i []).length=256) (GB:∀ j,j<St.length->(St.getD j (0,[])).1<=1000/\(St.getD j (0,[])).2.length<=1000):
 Av Ae 173 #[p,V (I ⟨b,off,R⟩) St.length cap] w (RunQ (F6 St) w P p s):=by
 have hlen:=fun A=>FD A s
 have hpre:∀ j,j<St.length->(F6 (St.take j)).length+(St.getD j (0,[])).2.length+1<=1000:=fun j hj=>by
  have:=Bt List.length (Vz St j hj).1;simp only[AD,Hz,Bm,List.length_nil] at this;unfold qP at hSt;omega
 have KW:=wM (fun j (hj:j<St.length) i (hi:i<(St.getD j (0,[])).2.length) W Pk (hd:Dk W Pk p (BC (F6 (St.take j) ++ (Jz (St.getD j (0,[])).1 (St.getD j (0,[])).2).take i) s).2) v (hv:BSl W v ((St.getD j (0,[])).2.getD i []))=>iW hd ((St.getD j (0,[])).1+i) (by
  have h1:=(hok j hj i hi).1;have h3:=(hlen (F6 (St.take j) ++ (Jz (St.getD j (0,[])).1 (St.getD j (0,[])).2).take i)).1;omega) hv (hok j hj i hi).2 (by
  have h1:=(hlen (F6 (St.take j) ++ (Jz (St.getD j (0,[])).1 (St.getD j (0,[])).2).take i)).2;have h2:=hpre j hj;rw[AD,AJ,Hz] at h1;omega))
 have KF:=wM (fun j (hj:j<St.length) W Pk (hd:Dk W Pk p (BC (F6 (St.take j) ++ Jz (St.getD j (0,[])).1 (St.getD j (0,[])).2) s).2)=>Td hd (by
  have h1:=(hlen (F6 (St.take j) ++ Jz (St.getD j (0,[])).1 (St.getD j (0,[])).2)).2;have h2:=hpre j hj;rw[AD,Hz] at h1;omega))
 have HGT:=wM (fun j hj=>Vz St j hj);have HL:=wM (fun j (hj:j<St.length) i (hi:i<(St.getD j (0,[])).2.length)=>(hok j hj i hi).2);have HAT:=wM GB;have HS:=wM (fun W P' (hc:Chg P P' w W)=>hs.chg hc);have HD0:=wM (fun W (hb:Ap w.heap.size w W)=>h.below hb);have HST:Hid (∃ Pk,Dk w Pk p (BC (F6 (St.take 0)) s).2/\Chg P Pk w w):=wM ⟨P,h,Chg.refl P w⟩;have HFULL:Hid (F6 (St.take St.length)=F6 St):=wM (by rw[BP]);obtain⟨bp,rfl⟩:=h.ptr;obtain⟨A,hA⟩:=nm (F6 St);rw[<- hA] at HGT HFULL |-
 obtain⟨n,hn⟩:=nm St.length;rw[<- hn] at KW KF HGT HL HAT HFULL hn4 |-
 have HN:=wM hn;clear h hs hok GB hlen hpre hSt hU hA hn;go_enter Tryz.func173,Tryz.ntmps173;go_wp2;go_loopw [13] (fun t wr=>∃ j:Nat,j<=n/\t=H E j/\Hid ((BC (F6 (St.take j)) s).1=0)/\Hid (∃ Pk,Dk wr Pk (Al (I ⟨bp,0,R⟩)) (BC (F6 (St.take j)) s).2/\Chg P Pk w wr)) (fun t _=>n-(intOf t).toNat)
 case atStart=>exact⟨0,by omega,rfl,wM (by rw[List.take_zero];rfl),HST⟩
 case round=>
  obtain⟨j,hj,rfl,HR,HSJ⟩:=hrel;clear HST;obtain⟨Pk,hdk,hck⟩:=HSJ.out;by_cases hlt:j<n
  . obtain⟨hb,Ja,Dc⟩:=HS.out _ _ hck
    obtain⟨ao,dc,x0,x1,hbb⟩:=Dc j (by rw[<- HN.out];exact hlt);have hbl:=fun k hk=>hdk.lt k hk
    have HAJ:=HAT.out j hlt;have HGJ:=wM (HGT.out j hlt);have HLJ:=wM (HL.out j hlt);have KWJ:=wM (KW.out j hlt);have KFJ:=wM (KF.out j hlt);obtain⟨a,ha⟩:=nm ((St.getD j (0,[])).1);obtain⟨bs,hbs⟩:=nm ((St.getD j (0,[])).2);rw[<- ha] at x0 HAJ HGJ KWJ KFJ;rw[<- hbs] at x1 hbb HAJ HGJ HLJ KWJ KFJ;obtain⟨X,hX⟩:=nm (F6 (St.take j));rw[<- hX] at hdk HR HGJ KWJ KFJ;obtain⟨m,hm⟩:=nm bs.length;rw[<- hm] at x1 HAJ HLJ KWJ hbb;obtain⟨ha1,hm1⟩:=HAJ;have HWF:Hid ((Jz a bs).take m=Jz a bs):=wM (AR (by rw[Hz,hm];exact At _));have HWG:=wM (fun i (hi:i<m)=>o3 a bs i (by rw[<- hm];exact hi));have HBB:=wM (fun W P' (hc:Chg Pk P' wr W)=>by have:=(hbb.chg hc).sl.open';rw[<- hm] at this;exact this);have ej:(j:Int)<(n:Int):=(by omega);have HCK:=wM hck;have HDK:=wM hdk;have HBL:=wM hbl;have uA:=Ar wr (S #[H E 0,V R 0 0] 268);have hbsx:=As wr (S #[H E 0,V R 0 0] 268);clear hb Ja Dc hbb ha hbs hX hm hck hdk hbl
    go_wp2_with (with_reducible refine OO rfl 268 rA (.tmp 6) (.tmp 16) rfl wr.heap.size rfl _ _ _ _ rfl rfl rfl _ uA ?_;intro w3 hw3 hr3
                 have HB3:=wM (hbsx.trans (hw3.below (At _)));have y0:w3.cell? ⟨wr.heap.size,0,R⟩=I (H E (a:Nat)):=(by rw[Aq _ _ _ _ _ _ hr3];rfl);have y1:w3.cell? ⟨wr.heap.size,1,R⟩=I (V ao m dc):=(by rw[Aq _ _ _ _ _ _ hr3];rfl);have I9:=(Ah.1 hr3).1;clear uA hbsx hw3 hr3)
    obtain⟨d,hd⟩:=nm wr.heap.size;rw[<- hd] at y0 y1 I9 |-
    have HND:Hid (¬ Pk d):=wM (fun hp=>by have:=HBL.out _ hp;omega);have HC0:=wM (fun W P' (hc:Chg Pk P' w3 W)=>(hc.cell (i:=0) I9 HND.out).trans y0);have HCW:=wM (fun W P' (hc:Chg Pk P' w3 W)=>(Chg.of_below (P:=Pk) HB3.out).trans hc);have HSI:Hid (∃ Pi,Dk w3 Pi (Al (I ⟨bp,0,R⟩)) (BC (X ++ (Jz a bs).take 0) s).2/\Chg Pk Pi w3 w3):=wM ⟨Pk,by rw[List.take_zero,BW];exact HDK.out.below HB3.out,Chg.refl Pk w3⟩;have HRI:Hid ((BC (X ++ (Jz a bs).take 0) s).1=0):=wM (by rw[List.take_zero,BW];exact HR.out);clear x0 x1 y0 y1 I9 hd;go_loopw [20] (fun t wi=>∃ i:Nat,i<=m/\t=H E i/\Hid ((BC (X ++ (Jz a bs).take i) s).1=0)/\Hid (∃ Pi,Dk wi Pi (Al (I ⟨bp,0,R⟩)) (BC (X ++ (Jz a bs).take i) s).2/\Chg Pk Pi w3 wi)) (fun t _=>m-(intOf t).toNat)
    case atStart=>exact⟨0,by omega,rfl,HRI,HSI⟩
    case round=>
     obtain⟨i,hi,rfl,HR2,HS2⟩:=hrel;clear HSI HRI;obtain⟨Pi,uB,Up⟩:=HS2.out;by_cases uC:i<m
     . have y0:=HC0.out _ _ Up
       obtain⟨ao',dc',e2,_,q2⟩:=HBB.out _ _ (HCW.out _ _ Up);obtain⟨rfl,rfl⟩:=And.intro (AY e2).1 (AY e2).2.2;obtain⟨b2,o2,rfl,_,c2⟩:=q2 (by omega);obtain⟨x,z2,hx⟩:=c2 i uC;have KC:=wM (KWJ.out i uC _ _ uB _ hx);obtain⟨xo,xc,rfl,_⟩:=hx.shape;rw[HLJ.out i uC] at z2 KC;have e3:((a+i:Nat):Int)=(a:Int)+(i:Int):=(by push_cast;rfl);rw[e3] at KC;have ei:(i:Int)<(m:Int):=(by omega);have HGI:=wM (HWG.out i uC);have HCI:=wM Up;clear e2 e3 q2 c2 hx uB Up;cases hok:(BC (X ++ (Jz a bs).take i) s).2.ok
       . rw[hok,Ax CF,Ax CF] at KC
         have HOK:=wM hok;clear hok;go_wp2_with (go_at_call 163;(with_reducible refine KC.out.mono ?_);rintro e w5 ⟨rfl,P5,br,OQ⟩)
         go_ret;have e6:A=(X ++ (Jz a bs).take i) ++ .w (a+i) (bs.getD i []) :: ((Jz a bs).drop (i+1) ++ [.f] ++ F6 (St.drop (j+1))):=by
          rw[HGJ.out.1]
          conv=>lhs;rw[HGI.out.1]
          simp only[A7,List.cons_append]
         rw[e6];exact RunQ.stop HR2.out HOK.out br (HCK.out.trans (HCW.out _ _ (HCI.out.trans OQ)))
       . rw[hok,Au rfl,Au rfl] at KC
         have HOK:=wM hok;clear hok;go_wp2_with (go_at_call 163;(with_reducible refine KC.out.mono ?_);rintro e w5 ⟨rfl,P5,br,OQ⟩)
         go_roundw
         case rel=>
          have e5:X ++ (Jz a bs).take (i+1)=(X ++ (Jz a bs).take i) ++ [.w (a+i) (bs.getD i [])]:=(by rw[HGI.out.2,A7]);refine⟨i+1,by omega,by go_num,wM ?_,wM ⟨P5,?_,HCI.out.trans OQ⟩⟩
          . rw[e5,GC HR2.out HOK.out]
          . rw[e5,GC HR2.out HOK.out];exact br
         case measure=>simp[intOf];omega
     . obtain rfl:i=m:=by omega
       rw[HWF.out] at uB HR2;have KC:=wM (KFJ.out _ _ uB);have HCI:=wM Up;clear uB Up;cases hok:(BC (X ++ Jz a bs) s).2.ok
       . rw[hok,Ax CF,Ax CF] at KC
         have HOK:=wM hok;clear hok;go_wp2_with (go_at_call 123;(with_reducible refine KC.out.mono ?_);rintro e w5 ⟨rfl,P5,br,OQ⟩)
         go_ret;have e6:A=(X ++ Jz a bs) ++ .f :: F6 (St.drop (j+1)):=by
          rw[HGJ.out.1];simp only[A7,List.cons_append,List.nil_append]
         rw[e6];exact RunQ.stop HR2.out HOK.out br (HCK.out.trans (HCW.out _ _ (HCI.out.trans OQ)))
       . rw[hok,Au rfl,Au rfl] at KC
         have HOK:=wM hok;clear hok;go_wp2_with (go_at_call 123;(with_reducible refine KC.out.mono ?_);rintro e w5 ⟨rfl,P5,br,OQ⟩)
         go_roundw
         case rel=>
          have e5:F6 (St.take (j+1))=(X ++ Jz a bs) ++ [.f]:=(by rw[HGJ.out.2,A7]);refine⟨j+1,by omega,by go_num,wM ?_,wM ⟨P5,?_,HCK.out.trans (HCW.out _ _ (HCI.out.trans OQ))⟩⟩
          . rw[e5,GC HR2.out HOK.out]
          . rw[e5,GC HR2.out HOK.out];exact br
         case measure=>simp[intOf];omega
  . obtain rfl:j=n:=by omega
    clear HGT;go_wp2;go_ret;rw[HFULL.out] at HR HSJ;obtain⟨Pk,hdk,hck⟩:=HSJ.out;exact RunQ.done HR.out hdk hck
end
def Ee(q:Int)(N:List Int)(D:List (List Int)):List (Nat × List Int):=(Bu (D.length+1)).map fun i=>(3+i,(BK (Cv q N) :: D).getD i [])
def oJ(q:Int)(N:List Int)(D:List (List Int)):List (Nat × List (List Int)):=[(0,[]),(42,[z256]),(3,BK (Cv q N) :: D),(42,[BK (DX q)])]
theorem RH(q:Int)(N:List Int)(D:List (List Int)):F6 (oJ q N D)=Dl q (Ee q N D):=by
 have e1:Jz 3 (BK (Cv q N) :: D)=(Ee q N D).map fun y=>.w y.1 y.2:=by
  unfold Jz Ee;rw[List.map_map,Bm];rfl
 have e0:Jz 0 []=[]:=rfl;have e2:Jz 42 [z256]=[.w 42 z256]:=rfl;have e3:Jz 42 [BK (DX q)]=[.w 42 (BK (DX q))]:=rfl;unfold oJ;rw[Hi,Hi,Hi,Hi,UG,e0,e1,e2,e3];unfold Dl;simp only[A7,List.nil_append,List.cons_append,BW]
theorem Sj{q:Int}{N:List Int}{D:List (List Int)}{x:Nat × List Int}(h:x∈Ee q N D):∃ i,i<D.length+1/\x=(3+i,(BK (Cv q N) :: D).getD i []):=by
 obtain⟨i,hi,rfl⟩:=BZ.1 h;exact⟨i,Bd.1 hi,rfl⟩
theorem RB{q:Int}{N:List Int}{D F:List (List Int)}(hF:43<=F.length)(hD:D.length<=37)(i:Nat)(hi:i<D.length+1):(Cb (Ee q N D) F).getD (3+i) []=(BK (Cv q N) :: D).getD i []:=by
 refine IS _ F (3+i) _ (by omega) (fun x hx e=>?_) ⟨(3+i,(BK (Cv q N) :: D).getD i []),BZ.2 ⟨i,Bd.2 hi,rfl⟩,rfl⟩;obtain⟨k,hk,rfl⟩:=Sj hx;have e':3+k=3+i:=e;obtain rfl:k=i:=by omega
 rfl
theorem ZZ{q:Int}{N:List Int}{D:List (List Int)}(hF:Gf N D=AE):rE q N D (Ee q N D):=by
 obtain⟨JJ,hl,_⟩:=EJ hF;refine⟨fun x hx=>?_,fun F ZM=>⟨?_,fun j hj=>?_⟩⟩
 . obtain⟨k,hk,rfl⟩:=Sj hx
   show 3<=3+k/\3+k<42
   omega
 . have:=RB (q:=q) (N:=N) ZM (by omega:D.length<=37) 0 (by omega)
   exact this
 . have:=RB (q:=q) (N:=N) ZM (by omega:D.length<=37) (1+j) (by omega)
   rw[show 3+(1+j)=4+j by omega] at this;rw[this,show 1+j=j+1 by omega];rfl
theorem Yx(W:Ai)(n:Nat)(hn:n<=1000000)(C:Int)(hC:C=n):(Instr.makeSlice 77 (H E C) (H E C)).run Ae W=.ok (V (I ⟨W.heap.size,0,R⟩) n n) (W.alloc (S (AK n (H .u8 0)) 5)):=by
 subst hC;obtain⟨i,h2,h3,h4,h5⟩:=Bf IB;have CX:=run_make (P:=Ae) W 77 5 i (H .u8 0) Tryz.underlying77 h2 h3 E E n n (by omega) (by omega) (by rw[h5];omega) (by omega);simp only[Cd,h4,Nat.mul_one,aU] at CX;exact CX
theorem jF(b off M cap K:Nat)(C:Int)(hC:C=K)(h1:K<=cap)(h2:0<cap)(W:Ai):(Instr.slice 95 (V (I ⟨b,off,R⟩) M cap) R (I (H E C)) R).run Ae W=.ok (V (I ⟨b,off,R⟩) K cap) W:=by
 subst hC;obtain⟨i,g2,g3,g4,g5⟩:=Bf QE;have ee:Ae.elem 95=77:=by kernel_rfl
 have hs:(sizeOf 77).run Ae W=.ok 1 W:=by simp[sizeOf,typeInfo,g2,g4]
 rw[run_slice_h W 95 _ M cap (by rw[ee];exact Tryz.underlying95) E (K:Int) (by omega) (by omega),ee,hs];have hne:cap≠0:=by omega
 simp[sliced,hne,BY]
theorem Yz(b off M cap K:Nat)(C:Int)(hC:C=K)(h1:K+1=M)(h2:M<=cap)(W:Ai):(Instr.slice 95 (V (I ⟨b,off,R⟩) M cap) (I (H E C)) R R).run Ae W=.ok (V (I ⟨b,off+K,R⟩) 1 (cap-K)) W:=by
 subst hC;obtain⟨i,g2,g3,g4,g5⟩:=Bf QE;have ee:Ae.elem 95=77:=by kernel_rfl
 have hs:(sizeOf 77).run Ae W=.ok 1 W:=by simp[sizeOf,typeInfo,g2,g4]
 rw[run_slice_l W 95 _ M cap (by rw[ee];exact Tryz.underlying95) E (K:Int) (by omega) (by omega),ee,hs];have hne:cap≠K:=by omega
 have e1:M-K=1:=by omega
 simp[sliced,hne,BY,e1]
theorem BBa.mid{w:Ai}{P:Nat->Prop}{b off cap:Nat}{L:List (List Int)}(h:BBa w P (V (I ⟨b,off,R⟩) L.length cap) L)(lo m:Nat)(hm:lo+m<=L.length)(M:List (List Int))(hM:(L.drop lo).take m=M):BBa w P (V (I ⟨b,off+lo,R⟩) m (cap-lo)) M:=by
 have hlen:((L.drop lo).take m).length=m:=by simp;omega
 rw[hM] at hlen;rcases h with⟨hv,_⟩| ⟨a',c',hv,Cx,hc⟩
 . simp at hv
 . obtain⟨rfl,rfl⟩:(⟨b,off,R⟩:Addr)=a'/\cap=c':=⟨A0 (AY hv).1,(AY hv).2.2⟩
   refine AW ⟨⟨b,off+lo,R⟩,cap-lo,by rw[hlen],by omega,fun j hj=>?_⟩;rw[hlen] at hj;obtain⟨h1,h2,u,h3,h4,h5⟩:=hc (lo+j) (by omega);have e:M.getD j []=L.getD (lo+j) []:=by
    rw[<- hM];simp[hj]
   refine⟨h1,rfl,u,?_,by rw[e];exact h4,h5⟩;show w.cell? ⟨b,off+lo+j,R⟩=_
   rw[Dt];exact h3
theorem Qa{w:Ai}{g:Nat}(hg:w.heap[g]? =I (S (AK 256 (H .u8 0)) 5 (0,0))):BSl w (V (I ⟨g,0,R⟩) 256 256) z256:=by
 have hl:z256.length=256:=A3;refine⟨C4 256,AW ⟨_,256,by rw[hl],by rw[hl];exact At _,fun j hj=>⟨(Ah.1 hg).1,rfl,?_⟩⟩⟩;rw[hl] at hj;show w.cell? ⟨g,0+j,R⟩=_
 rw[Br,Aq _ _ _ _ _ _ hg];have hn:∀ n,j<n->(AK n (H .u8 0))[j]? =I (H .u8 ((Aw n (0:Int)).getD j 0)):=fun n h=>by simp[h]
 exact hn 256 hj
theorem fS{W:Ai}{P:Nat->Prop}(hP:∀ k,P k->k<W.heap.size){q:Int}{N:List Int}{D:List (List Int)}{b off M cap K:Nat}(hb:BBa W P (V (I ⟨b,off,R⟩) M cap) (Iw q N D))(hM:(Iw q N D).length=M)(hK:D.length+1=K):
 Ap W.heap.size W (((W.alloc (S (AK 256 (H .u8 0)) 5)).alloc (S #[V (I ⟨W.heap.size,0,R⟩) 256 256] 77)).alloc (S #[H E 0,V R 0 0,H E 42,V (I ⟨W.heap.size+1,0,R⟩) 1 1,H E 3,V (I ⟨b,off,R⟩) K cap,H E 42,V (I ⟨b,off+K,R⟩) 1 (cap-K)] 268))/\
 StSl (((W.alloc (S (AK 256 (H .u8 0)) 5)).alloc (S #[V (I ⟨W.heap.size,0,R⟩) 256 256] 77)).alloc (S #[H E 0,V R 0 0,H E 42,V (I ⟨W.heap.size+1,0,R⟩) 1 1,H E 3,V (I ⟨b,off,R⟩) K cap,H E 42,V (I ⟨b,off+K,R⟩) 1 (cap-K)] 268)) P (W.heap.size+1+1) 0 (oJ q N D):=by
 subst hK;have b1:=As W (S (AK 256 (H .u8 0)) 5);have n1:=Ar W (S (AK 256 (H .u8 0)) 5);have s1:(W.alloc (S (AK 256 (H .u8 0)) 5)).heap.size=W.heap.size+1:=by simp
 generalize W.alloc (S (AK 256 (H .u8 0)) 5)=U1 at b1 n1 s1 |-
 have b2:=As U1 (S #[V (I ⟨W.heap.size,0,R⟩) 256 256] 77);have n2:=Ar U1 (S #[V (I ⟨W.heap.size,0,R⟩) 256 256] 77);have s2:(U1.alloc (S #[V (I ⟨W.heap.size,0,R⟩) 256 256] 77)).heap.size=W.heap.size+1+1:=by simp[s1]
 generalize U1.alloc (S #[V (I ⟨W.heap.size,0,R⟩) 256 256] 77)=U2 at b2 n2 s2 |-
 rw[s1] at n2;have b3:=As U2 (S #[H E 0,V R 0 0,H E 42,V (I ⟨W.heap.size+1,0,R⟩) 1 1,H E 3,V (I ⟨b,off,R⟩) (D.length+1) cap,H E 42,V (I ⟨b,off+(D.length+1),R⟩) 1 (cap-(D.length+1))] 268);have n3:=Ar U2 (S #[H E 0,V R 0 0,H E 42,V (I ⟨W.heap.size+1,0,R⟩) 1 1,H E 3,V (I ⟨b,off,R⟩) (D.length+1) cap,H E 42,V (I ⟨b,off+(D.length+1),R⟩) 1 (cap-(D.length+1))] 268);generalize U2.alloc (S #[H E 0,V R 0 0,H E 42,V (I ⟨W.heap.size+1,0,R⟩) 1 1,H E 3,V (I ⟨b,off,R⟩) (D.length+1) cap,H E 42,V (I ⟨b,off+(D.length+1),R⟩) 1 (cap-(D.length+1))] 268)=U3 at b3 n3 |-
 rw[s2] at n3;have b23:Ap U1.heap.size U1 U3:=b2.trans (b3.mono b2.size);have b13:Ap W.heap.size W U3:=b1.trans (b23.mono b1.size);have hc:Chg P P W U3:=Chg.of_below b13;have z1:=(b23.block _ (Ah.1 n1).1).trans n1;have z2:=(b3.block _ (Ah.1 n2).1).trans n2;have hPn:∀ k,W.heap.size<=k->¬ P k:=fun k hk hp=>by have:=hP k hp;omega
 have hl:(Iw q N D).length=D.length+2:=Mj q N D;rw[<- hM] at hb;have m1:=hb.mid 0 (D.length+1) (by omega) (BK (Cv q N) :: D) (by
  unfold Iw;rw[CP];show List.take ((BK (Cv q N) :: D).length) ((BK (Cv q N) :: D) ++ [BK (DX q)])=_
  rw[List.take_left])
 have m2:=hb.mid (D.length+1) 1 (by omega) [BK (DX q)] (by
  unfold Iw;show List.take 1 (List.drop ((BK (Cv q N) :: D).length) ((BK (Cv q N) :: D) ++ [BK (DX q)]))=_
  rw[List.drop_left];rfl)
 rw[Nat.add_zero,Nat.sub_zero] at m1;refine⟨b13,(Ah.1 n3).1,hPn _ (by omega),fun j hj=>?_⟩;have hj4:j<4:=hj;have cl:∀ i,U3.cell? ⟨W.heap.size+1+1,i,R⟩=(#[H E 0,V R 0 0,H E 42,V (I ⟨W.heap.size+1,0,R⟩) 1 1,H E 3,V (I ⟨b,off,R⟩) (D.length+1) cap,H E 42,V (I ⟨b,off+(D.length+1),R⟩) 1 (cap-(D.length+1))]:Array Ao)[i]? :=fun i=>Aq _ _ _ _ _ _ n3
 obtain rfl|rfl|rfl|rfl:j=0\/j=1\/j=2\/j=3:=by omega
 . exact⟨R,0,cl _,cl _,BBa.nil _ _⟩
 . refine⟨_,_,cl _,cl _,AW ⟨_,1,rfl,At _,fun i hi=>?_⟩⟩
   obtain rfl:i=0:=by have:i<1:=hi;omega
   refine⟨⟨(Ah.1 z2).1,hPn _ (Nat.le_succ _)⟩,rfl,V (I ⟨W.heap.size,0,R⟩) 256 256,?_,Qa z1,Apt.new (hPn _ (At _))⟩;show U3.cell? ⟨W.heap.size+1,0,R⟩=_
   rw[Aq _ _ _ _ _ _ z2];rfl
 . exact⟨_,_,cl _,cl _,m1.chg hc⟩
 . exact⟨_,_,cl _,cl _,m2.chg hc⟩
theorem StSl.drew{w:Ai}{P:Nat->Prop}{b off:Nat}{St:List (Nat × List (List Int))}(h:StSl w P b off St):StSl w.drew P b off St:=h.chg (Chg.of_below (AM (AC _ _) 1))
theorem Uj{B:Nat}{w w':Ai}(h:Ap B w w'):Ap B w w'.drew:=AM h 1
section
variable {w:Ai}{P:Nat->Prop}{p:Ao}{s:DS}
theorem Xp(h:Dk w P p s){v:Ao}{q:Int}{N:List Int}{D:List (List Int)}(hv:TxV w v q N D)(q0:0<=q)(q1:q<4294967296)(hB:Gl s.F.length N D=AE)(hU:s.U.length<=900000):
 Av Ae 130 #[p,v] w (RunQ (Dl q (Ee q N D)) w P p s):=by
 have hv':=hv;obtain⟨no,nc,ao,dc,rfl,hN,hD⟩:=hv;have hB':=hB;unfold Gl at hB';rw[AQ,AQ,A4] at hB';obtain⟨OP,hF,hH⟩:=hB';obtain⟨f1,f2,f3⟩:=EJ hF;have KT:=wM (fun W (hb:Ap w.heap.size w W)=>RY (h.below hb) (hv'.below hb) AE hB);have KP:=wM (fun W (hb:Ap w.heap.size w W)=>dR (hv'.below hb) hF q0 q1);obtain⟨M,hM⟩:=nm ((Iw q N D).length);obtain⟨K,hK⟩:=nm (D.length+1);have hMK:K+1=M:=by rw[hM,Mj,hK]
 have hM40:M<=40:=by omega
 have KL:Hid (∀ W g U3,Ap w.heap.size w W->(W.heap.size+1+1=g)->(StSl U3 P g 0 (oJ q N D))->Ap W.heap.size W U3->Av Ae 173 #[p,V (I ⟨g,0,R⟩) 4 4] U3 (fun e w'=>e=Aj (H E (BC (Dl q (Ee q N D)) s).1)/\∃ P',Dk w' P' p (BC (Dl q (Ee q N D)) s).2/\Chg P P' w w')):=wM (fun W g U3 hb _ hs hb2=>by
  have:=o9 (cap:=4) (h.below (hb.trans (hb2.mono hb.size))) hs hU (by
   unfold qP;rw[RH];unfold Dl;simp[Ee];omega) (by show 4<=1000;omega) (fun j hj i hi=>by
   have hj4:j<4:=hj;obtain rfl|rfl|rfl|rfl:j=0\/j=1\/j=2\/j=3:=by omega
   . exact absurd hi (A9 _)
   . obtain rfl:i=0:=by have:i<1:=hi;omega
     exact⟨by show 42+0<_;omega,by show z256.length=256;exact A3⟩
   . have hi':i<D.length+1:=hi
     refine⟨by show 3+i<_;omega,?_⟩;show((BK (Cv q N) :: D).getD i []).length=256
     cases i with
     |zero=>exact Dm _ (by rw[Gh];omega)
     |succ i=>exact(f3 i (by omega)).2.1
   . obtain rfl:i=0:=by have:i<1:=hi;omega
     exact⟨by show 42+0<_;omega,by show(BK (DX q)).length=256;exact Dm _ (by rw[Kf];omega)⟩) (fun j hj=>by
   have hj4:j<4:=hj;obtain rfl|rfl|rfl|rfl:j=0\/j=1\/j=2\/j=3:=by omega
   . exact⟨by show 0<=1000;omega,by show 0<=1000;omega⟩
   . exact⟨by show 42<=1000;omega,by show 1<=1000;omega⟩
   . exact⟨by show 3<=1000;omega,by show D.length+1<=1000;omega⟩
   . exact⟨by show 42<=1000;omega,by show 1<=1000;omega⟩)
  rw[RH] at this;refine this.mono ?_;rintro e w' ⟨he,P',hd,hc⟩;exact⟨he,P',hd,(Chg.of_below (hb.trans (hb2.mono hb.size))).trans hc⟩)
 have hlt:=fun k hk=>h.lt k hk
 have HAP:=wM (fun W (hb:Ap w.heap.size w W) u (hu:BB2 W W.heap.size 0 u (Iw q N D))=>hu.zero.apart (h.below hb));have HAP2:=wM (fun W (hb:Ap w.heap.size w W) B u (hu:BB2 W B 0 u (Iw q N D))=>hu.zero.apart (h.below hb));have HSM:=wM (fun W (hb:Ap w.heap.size w W) b off cap (hu:BBa W P (V (I ⟨b,off,R⟩) M cap) (Iw q N D))=>fS (W:=W) (P:=P) (fun k hk=>AA (hlt k hk) hb.size) hu hM.symm hK.symm);have HSH:=wM (fun W u (hu:BBSl W u (Iw q N D))=>hu.open');rw[<- hM] at HSH;obtain⟨bp,rfl⟩:=h.ptr;unfold RunQ;obtain⟨A,hA⟩:=nm (Dl q (Ee q N D));rw[<- hA] at KL |-
 obtain⟨rr,hrr⟩:=nm ((BC A s).1);obtain⟨rs,mm⟩:=nm ((BC A s).2);rw[<- hrr,<- mm] at KL |-
 generalize N.length=n at KT KP |-
 generalize D.length=m at KT KP |-
 have hbx:=As w (S #[H .u32 q,V no n nc,V ao m dc] 215);have EN:=Ar w (S #[H .u32 q,V no n nc,V ao m dc] 215);have hMc:((K:Nat):Int)=(M:Int)-1:=by omega
 have HMK:=wM hMK;have HM40:=wM hM40;have HMC:=wM hMc;clear h hN hD hv' hB hF hH f1 f2 f3 OP hlt hU q0 q1 hM hK hA hrr mm hMK hMc;go_enter Tryz.func130,Tryz.ntmps130;go_upto_region 1 with(fail)
 generalize w.alloc (S #[H .u32 q,V no n nc,V ao m dc] 215)=u at hbx EN |-
 have KT1:=wM (KT.out _ hbx);have d0:u.cell? ⟨w.heap.size,0,R⟩=I (H .u32 q):=by rw[Aq _ _ _ _ _ _ EN];rfl
 have d1:u.cell? ⟨w.heap.size,1,R⟩=I (V no n nc):=by rw[Aq _ _ _ _ _ _ EN];rfl
 have d2:u.cell? ⟨w.heap.size,2,R⟩=I (V ao m dc):=by rw[Aq _ _ _ _ _ _ EN];rfl
 have Ou:w.heap.size<u.heap.size:=(Ah.1 EN).1;obtain⟨d,hd⟩:=nm w.heap.size;have HBX:=wM hbx;have HM0:Hid (0<M):=wM (by have:=HMK.out;omega);rw[<- hd] at d0 d1 d2 Ou |-
 have e1:1<=M:=HM0.out;clear EN KT hbx hd
 go_wp2_with (first
  |(go_at_call 162;(with_reducible refine KT1.out.mono ?_);rintro e w2 ⟨rfl,hb2⟩
    have HB2:=wM (HBX.out.trans (hb2.mono HBX.out.size));have g0:=(hb2.cell (p:=⟨d,0,R⟩) Ou).trans d0;have g1:=(hb2.cell (p:=⟨d,1,R⟩) Ou).trans d1;have g2:=(hb2.cell (p:=⟨d,2,R⟩) Ou).trans d2;clear hb2 d0 d1 d2)
  |(go_at_call 172;(with_reducible refine(KP.out _ HB2.out).mono ?_);rintro e w3 ⟨u3,rfl,hu3,hb3⟩
    have HB3:=wM (HB2.out.trans (hb3.mono HB2.out.size));have HA3:=wM (HAP2.out _ HB3.out _ _ hu3);obtain⟨bo,cap,rfl,Cx,hq3⟩:=HSH.out _ _ hu3.zero.sl;obtain⟨b,off,rfl,_,_⟩:=hq3 HM0.out;have HCAP:=wM Cx;clear hu3 hb3 hq3 Cx g0 g1 g2))
 have hwr:E.wrap ((M:Int)-1)=(M:Int)-1:=Bq _ (by have:=HM40.out;have:=HM0.out;omega);obtain⟨Z,hZ⟩:=nm (AK 256 (H .u8 0));have sc:=fun W=>Yx W 256 (by decide) 256 rfl
 have IL:=fun W=>jF b off M cap K ((M:Int)-1) HMC.out.symm (by have:=HCAP.out;have:=HMK.out;omega) (by have:=HCAP.out;have:=HM0.out;omega) W
 have Ot:=fun W=>Yz b off M cap K ((M:Int)-1) HMC.out.symm HMK.out HCAP.out W
 obtain⟨h1,h2⟩:=HSM.out _ HB3.out _ _ _ HA3.out;have KL1:=wM (KL.out _ _ _ HB3.out rfl h2.drew (Uj h1));rw[<- hZ] at sc KL1;clear h1 h2 hZ HA3;go_region_held3 (fun W=>True) (trivial) (first|(go_at_call 173;(with_reducible refine KL1.out.mono ?_);rintro e w5 ⟨rfl,hx5⟩))
 go_wp2;go_ret;exact⟨rfl,hx5⟩
end
def RecQ(A:List PA)(hd:Prop)(w:Ai)(P:Nat->Prop)(p:Ao)(s:DS)(e:Ending)(w':Ai):Prop:=
 ∃ x,e=Aj (AH #[H .u32 x,H E (BC A s).1])/\(∃ P',Dk w' P' p (BC A s).2/\Chg P P' w w')/\(hd->(BC A s).1=0->x=1)/\(0<=x/\x<4294967296)
theorem u32_in(x:Int):0<=IntKind.u32.wrap x/\IntKind.u32.wrap x<4294967296:=by
 have:IntKind.u32.wrap x=x%4294967296:=by simp[IntKind.wrap,IntKind.signed,IntKind.bits]
 omega
theorem FG(A:List PA)(s:DS):(BC A s).1=0\/(BC A s).1=2:=by
 obtain⟨_,_,_,h⟩:=H7 A s;exact h.imp (fun x=>x.1) id
theorem RecQ.early{A:List PA}{hd:Prop}{w W:Ai}{P P':Nat->Prop}{p:Ao}{s:DS}(h:(BC A s).1=2)(hk:Dk W P' p (BC A s).2)(hc:Chg P P' w W):RecQ (A ++ [.f]) hd w P p s (Aj (AH #[H .u32 0,H E 2])) W:=by
 have e:BC (A ++ [.f]) s=BC A s:=by rw[EE,Ax (by rw[h];decide)]
 unfold RecQ;rw[e,h];exact⟨0,rfl,⟨P',hk,hc⟩,fun _ h=>absurd h (by decide),by decide,by decide⟩
theorem RecQ.stop{A:List PA}{hd:Prop}{w W:Ai}{P P':Nat->Prop}{p:Ao}{s:DS}(h:(BC A s).1=0)(hok:(BC A s).2.ok=Ay)(hk:Dk W P' p (BC A s).2.pay)(hc:Chg P P' w W):RecQ (A ++ [.f]) hd w P p s (Aj (AH #[H .u32 0,H E 2])) W:=by
 unfold RecQ;rw[R5 h hok];exact⟨0,rfl,⟨P',hk,hc⟩,fun _ h=>absurd (show(2:Int)=0 from h) (by decide),by decide,by decide⟩
theorem RecQ.done{A:List PA}{hd:Prop}{w W:Ai}{P P':Nat->Prop}{p:Ao}{s:DS}{x:Int}(h:(BC A s).1=0)(hok:(BC A s).2.ok=AE)(hk:Dk W P' p (BC A s).2.flush)(hc:Chg P P' w W)(hx:hd->x=1)(Xb:0<=x/\x<4294967296):RecQ (A ++ [.f]) hd w P p s (Aj (AH #[H .u32 x,H E 0])) W:=by
 unfold RecQ;rw[GC h hok];exact⟨x,rfl,⟨P',hk,hc⟩,fun h _=>hx h,Xb⟩
section
variable {w:Ai}{P:Nat->Prop}{p:Ao}{s:DS}
theorem RX{W:Ai}{v:Ao}{J:List (List Int)}(hv:BBSl W v J)(hJ:0<J.length):
 Av Ae 124 #[v] W fun e w'=>∃ y z,e=Aj (AH #[H .u32 y,AP z])/\Ap W.heap.size W w'/\((∀ q N,¬ Dv (J.getD 0 []) q N)->y=0):=
 (kM hv).mono fun e w' ⟨hb,hc⟩=>by
   rcases hc with⟨q,N,h0,hh,he⟩| ⟨_,he⟩
   . exact⟨q,AE,he,hb,fun h=>absurd hh (h q N)⟩
   . exact⟨0,Ay,he,hb,fun _=>rfl⟩
theorem Tl(h:Dk w P p s)(OP:64<=s.F.length)(hd:s.dn=Ay)(hU:s.U.length<=900000){q:Int}{N:List Int}{D:List (List Int)}(ht:Pa s.F.length (Ey s.vis) q N D):
 Av Ae 80 #[p] w (RecQ (B7 N D ++ [.f]) (∀ q N,¬ Dv ((Ey s.vis).getD 0 []) q N) w P p s):=by
 have MV:(Ey s.vis).length=40:=EC (by rw[DS.vis_length];omega);obtain⟨hF,q0,q1⟩:=Nu ht.1;have hlen:=FD (B7 N D) s;rw[Fh] at hlen;have JJ:=(EJ hF).1;have KJ:=wM (V8 h OP hd);have KS:=wM (fun W (hb:Ap w.heap.size w W) v (hv:BBSl W v (Ey s.vis))=>VL (h.below hb) hv (by omega) ht);have HTV:=wM (fun W (hb:Ap w.heap.size w W) vN vD (hN:IR W 0 vN N) (hD:BBR W 0 vD D)=>TxVa.own (h.below hb) (q:=q) hN hD);have KH:=wM (fun W (hb:Ap w.heap.size w W) v (hv:TxVa W P v q N D)=>Sc (h.below hb) hv (by
  unfold Gl;rw[Az OP,hF,ht.2];rfl) hU)
 have KF:=wM (fun W Pk (hk:Dk W Pk p (BC (B7 N D) s).2)=>Td hk (by omega));have KQ:=wM (fun W v (hv:BBSl W v (Ey s.vis))=>RX hv (by omega));obtain⟨bp,rfl⟩:=h.ptr;obtain⟨J,hJ⟩:=nm (Ey s.vis);rw[<- hJ] at KJ KS KQ |-
 obtain⟨HD,sn⟩:=nm ((∀ q N,¬ Dv (J.getD 0 []) q N));rw[<- sn];have HHD:Hid (HD->(∀ q N,¬ Dv (J.getD 0 []) q N)):=wM (fun h=>by rw[sn] at h;exact h);obtain⟨A,hA⟩:=nm (B7 N D);rw[<- hA] at KF KH |-
 unfold RunQ at KH;clear h OP hd hU ht MV hF q0 q1 hlen JJ sn hA hJ;rcases FG A s with hr|hr
 . rw[hr] at KH
   have HR:=wM hr;clear hr;cases hok:(BC A s).2.ok
   . rw[hok,Ax CF,Ax CF] at KF
     have HOK:=wM hok;clear hok;go_enter Tryz.func80,Tryz.ntmps80
     go_wp2_with (first
      |(go_at_call 120;(with_reducible refine KJ.out.mono ?_);rintro e w1 ⟨ao,cap,rfl,hv1,hb1⟩
        have HB1:=wM hb1;have HV1:=wM hv1;clear hb1 hv1)
      |(go_at_call 121;(with_reducible refine(KS.out _ HB1.out _ HV1.out.sl).mono ?_);rintro e w3 ⟨vN,vD,rfl,hN3,hD3,hb3⟩
        obtain⟨_,no,nc,rfl,_⟩:=hN3.isc;obtain⟨co,dc,rfl,_⟩:=hD3.sl.shape;have JK:=Ar w3 (S #[H .u32 0,V R 0 0,V R 0 0] 215);have hbs:=As w3 (S #[H .u32 0,V R 0 0,V R 0 0] 215);have HN3:=wM (hN3.below hbs);have HD3:=wM (hD3.below hbs);have HB3:=wM hb3;generalize hnn:N.length=n at HN3 |-
        generalize hmm:D.length=m at HD3 |-
        clear hN3 hD3 hnn hmm hb3)
      |(with_reducible refine BD rfl 215 EG (.tmp 6) (.tmp 24) rfl w3.heap.size rfl _ _ _ _ _ _ rfl rfl rfl rfl _ JK ?_;intro w4 hw4 hr4
        have hb4:=hbs.trans (hw4.below (At _));have HB14:=wM (HB3.out.trans (hb4.mono HB3.out.size));have HB4:=wM (HB1.out.trans (HB14.out.mono HB1.out.size));have x0:w4.cell? ⟨w3.heap.size,0,R⟩=I (H .u32 q):=(by rw[Aq _ _ _ _ _ _ hr4];rfl);have x1:w4.cell? ⟨w3.heap.size,1,R⟩=I (V no n nc):=(by rw[Aq _ _ _ _ _ _ hr4];rfl);have x2:w4.cell? ⟨w3.heap.size,2,R⟩=I (V co m dc):=(by rw[Aq _ _ _ _ _ _ hr4];rfl);have HTX:=wM (HTV.out _ HB4.out _ _ (HN3.out.wrote hw4 JK (by decide)) (HD3.out.wrote hw4 (AT _) JK (by decide) (by decide)));clear JK hbs hw4 hb4 HN3 HD3 hr4)
      |(go_at_call 122;(with_reducible refine(KH.out _ HB4.out _ HTX.out).mono ?_);rintro e w5 ⟨rfl,P5,br,OQ⟩
        have HC5:=wM ((Chg.of_below (P:=P) HB14.out).trans OQ);have HC05:=wM ((Chg.of_below (P:=P) HB1.out).trans HC5.out);have KF1:=wM (KF.out _ _ br);clear x0 x1 x2 OQ)
      |(go_at_call 123;(with_reducible refine KF1.out.mono ?_);rintro e w7 ⟨rfl,P7,hd7,pj⟩))
     go_ret2;exact RecQ.stop HR.out HOK.out hd7 (HC05.out.trans pj)
   . rw[hok,Au rfl,Au rfl] at KF
     have HOK:=wM hok;clear hok;go_enter Tryz.func80,Tryz.ntmps80
     go_wp2_with (first
      |(go_at_call 120;(with_reducible refine KJ.out.mono ?_);rintro e w1 ⟨ao,cap,rfl,hv1,hb1⟩
        have HB1:=wM hb1;have HV1:=wM hv1;clear hb1 hv1)
      |(go_at_call 121;(with_reducible refine(KS.out _ HB1.out _ HV1.out.sl).mono ?_);rintro e w3 ⟨vN,vD,rfl,hN3,hD3,hb3⟩
        obtain⟨_,no,nc,rfl,_⟩:=hN3.isc;obtain⟨co,dc,rfl,_⟩:=hD3.sl.shape;have JK:=Ar w3 (S #[H .u32 0,V R 0 0,V R 0 0] 215);have hbs:=As w3 (S #[H .u32 0,V R 0 0,V R 0 0] 215);have HN3:=wM (hN3.below hbs);have HD3:=wM (hD3.below hbs);have HB3:=wM hb3;generalize hnn:N.length=n at HN3 |-
        generalize hmm:D.length=m at HD3 |-
        clear hN3 hD3 hnn hmm hb3)
      |(with_reducible refine BD rfl 215 EG (.tmp 6) (.tmp 24) rfl w3.heap.size rfl _ _ _ _ _ _ rfl rfl rfl rfl _ JK ?_;intro w4 hw4 hr4
        have hb4:=hbs.trans (hw4.below (At _));have HB14:=wM (HB3.out.trans (hb4.mono HB3.out.size));have HB4:=wM (HB1.out.trans (HB14.out.mono HB1.out.size));have x0:w4.cell? ⟨w3.heap.size,0,R⟩=I (H .u32 q):=(by rw[Aq _ _ _ _ _ _ hr4];rfl);have x1:w4.cell? ⟨w3.heap.size,1,R⟩=I (V no n nc):=(by rw[Aq _ _ _ _ _ _ hr4];rfl);have x2:w4.cell? ⟨w3.heap.size,2,R⟩=I (V co m dc):=(by rw[Aq _ _ _ _ _ _ hr4];rfl);have HTX:=wM (HTV.out _ HB4.out _ _ (HN3.out.wrote hw4 JK (by decide)) (HD3.out.wrote hw4 (AT _) JK (by decide) (by decide)));clear JK hbs hw4 hb4 HN3 HD3 hr4)
      |(go_at_call 122;(with_reducible refine(KH.out _ HB4.out _ HTX.out).mono ?_);rintro e w5 ⟨rfl,P5,br,OQ⟩
        have HC5:=wM ((Chg.of_below (P:=P) HB14.out).trans OQ);have HC05:=wM ((Chg.of_below (P:=P) HB1.out).trans HC5.out);have KF1:=wM (KF.out _ _ br);clear x0 x1 x2 OQ)
      |(go_at_call 123;(with_reducible refine KF1.out.mono ?_);rintro e w7 ⟨rfl,P7,hd7,pj⟩)
      |(go_at_call 124;(with_reducible refine(KQ.out _ _ (HV1.out.chg (HC5.out.trans pj)).sl).mono ?_);rintro e w8 ⟨y,z,rfl,hb8,hy⟩))
     go_ret2;exact RecQ.done HR.out HOK.out (hd7.below hb8) ((HC05.out.trans pj).trans (Chg.of_below hb8)) (fun h=>by rw[hy (HHD.out h)];rfl) (u32_in (y+1))
 . rw[hr] at KH
   have HR:=wM hr;clear hr;go_enter Tryz.func80,Tryz.ntmps80
   go_wp2_with (first
    |(go_at_call 120;(with_reducible refine KJ.out.mono ?_);rintro e w1 ⟨ao,cap,rfl,hv1,hb1⟩
      have HB1:=wM hb1;have HV1:=wM hv1;clear hb1 hv1)
    |(go_at_call 121;(with_reducible refine(KS.out _ HB1.out _ HV1.out.sl).mono ?_);rintro e w3 ⟨vN,vD,rfl,hN3,hD3,hb3⟩
      obtain⟨_,no,nc,rfl,_⟩:=hN3.isc;obtain⟨co,dc,rfl,_⟩:=hD3.sl.shape;have JK:=Ar w3 (S #[H .u32 0,V R 0 0,V R 0 0] 215);have hbs:=As w3 (S #[H .u32 0,V R 0 0,V R 0 0] 215);have HN3:=wM (hN3.below hbs);have HD3:=wM (hD3.below hbs);have HB3:=wM hb3;generalize hnn:N.length=n at HN3 |-
      generalize hmm:D.length=m at HD3 |-
      clear hN3 hD3 hnn hmm hb3)
    |(with_reducible refine BD rfl 215 EG (.tmp 6) (.tmp 24) rfl w3.heap.size rfl _ _ _ _ _ _ rfl rfl rfl rfl _ JK ?_;intro w4 hw4 hr4
      have hb4:=hbs.trans (hw4.below (At _));have HB14:=wM (HB3.out.trans (hb4.mono HB3.out.size));have HB4:=wM (HB1.out.trans (HB14.out.mono HB1.out.size));have x0:w4.cell? ⟨w3.heap.size,0,R⟩=I (H .u32 q):=(by rw[Aq _ _ _ _ _ _ hr4];rfl);have x1:w4.cell? ⟨w3.heap.size,1,R⟩=I (V no n nc):=(by rw[Aq _ _ _ _ _ _ hr4];rfl);have x2:w4.cell? ⟨w3.heap.size,2,R⟩=I (V co m dc):=(by rw[Aq _ _ _ _ _ _ hr4];rfl);have HTX:=wM (HTV.out _ HB4.out _ _ (HN3.out.wrote hw4 JK (by decide)) (HD3.out.wrote hw4 (AT _) JK (by decide) (by decide)));clear JK hbs hw4 hb4 HN3 HD3 hr4)
    |(go_at_call 122;(with_reducible refine(KH.out _ HB4.out _ HTX.out).mono ?_);rintro e w5 ⟨rfl,P5,br,OQ⟩
      have HC5:=wM ((Chg.of_below (P:=P) HB14.out).trans OQ);have HC05:=wM ((Chg.of_below (P:=P) HB1.out).trans HC5.out);have KF1:=wM (KF.out _ _ br);clear x0 x1 x2 OQ))
   go_ret2;exact RecQ.early HR.out br HC05.out
theorem VI(h:Dk w P p s)(OP:64<=s.F.length)(hd:s.dn=Ay)(hU:s.U.length<=900000)(CU:∀ q N D,¬ Pa s.F.length (Ey s.vis) q N D):
 Av Ae 80 #[p] w (RecQ ([] ++ [.f]) (∀ q N,¬ Dv ((Ey s.vis).getD 0 []) q N) w P p s):=by
 have MV:(Ey s.vis).length=40:=EC (by rw[DS.vis_length];omega);have KJ:=wM (V8 h OP hd);have KS:=wM (fun W (hb:Ap w.heap.size w W) v (hv:BBSl W v (Ey s.vis))=>Xo (h.below hb) hv (by omega) CU);have KF:=wM (fun W (hb:Ap w.heap.size w W)=>Td (h.below hb) (by omega));have KQ:=wM (fun W v (hv:BBSl W v (Ey s.vis))=>RX hv (by omega));obtain⟨bp,rfl⟩:=h.ptr;obtain⟨J,hJ⟩:=nm (Ey s.vis);rw[<- hJ] at KJ KS KQ |-
 obtain⟨HD,sn⟩:=nm ((∀ q N,¬ Dv (J.getD 0 []) q N));rw[<- sn];have HHD:Hid (HD->(∀ q N,¬ Dv (J.getD 0 []) q N)):=wM (fun h=>by rw[sn] at h;exact h);have HR:Hid ((BC [] s).1=0):=wM rfl;clear h OP hd hU CU MV sn hJ;cases hok:s.ok
 . rw[hok,Ax CF,Ax CF] at KF
   have HOK:Hid ((BC [] s).2.ok=Ay):=wM hok;clear hok;go_enter Tryz.func80,Tryz.ntmps80
   go_wp2_with (first
    |(go_at_call 120;(with_reducible refine KJ.out.mono ?_);rintro e w1 ⟨ao,cap,rfl,hv1,hb1⟩
      have HB1:=wM hb1;have HV1:=wM hv1;clear hb1 hv1)
    |(go_at_call 121;(with_reducible refine(KS.out _ HB1.out _ HV1.out.sl).mono ?_);rintro e w3 ⟨rfl,hb3⟩
      have JK:=Ar w3 (S #[H .u32 0,V R 0 0,V R 0 0] 215);have hbs:=As w3 (S #[H .u32 0,V R 0 0,V R 0 0] 215);have HB3:=wM hb3;clear hb3)
    |(with_reducible refine BD rfl 215 EG (.tmp 6) (.tmp 24) rfl w3.heap.size rfl _ _ _ _ _ _ rfl rfl rfl rfl _ JK ?_;intro w4 hw4 hr4
      have hb4:=hbs.trans (hw4.below (At _));have HB14:=wM (HB3.out.trans (hb4.mono HB3.out.size));have HB4:=wM (HB1.out.trans (HB14.out.mono HB1.out.size));have HC5:=wM (Chg.of_below (P:=P) HB14.out);have HC05:=wM (Chg.of_below (P:=P) HB4.out);have KF1:=wM (KF.out _ HB4.out);clear JK hbs hw4 hb4 hr4)
    |(go_at_call 123;(with_reducible refine KF1.out.mono ?_);rintro e w7 ⟨rfl,P7,hd7,pj⟩))
   go_ret2;exact RecQ.stop HR.out HOK.out hd7 (HC05.out.trans pj)
 . rw[hok,Au rfl,Au rfl] at KF
   have HOK:Hid ((BC [] s).2.ok=AE):=wM hok;clear hok;go_enter Tryz.func80,Tryz.ntmps80
   go_wp2_with (first
    |(go_at_call 120;(with_reducible refine KJ.out.mono ?_);rintro e w1 ⟨ao,cap,rfl,hv1,hb1⟩
      have HB1:=wM hb1;have HV1:=wM hv1;clear hb1 hv1)
    |(go_at_call 121;(with_reducible refine(KS.out _ HB1.out _ HV1.out.sl).mono ?_);rintro e w3 ⟨rfl,hb3⟩
      have JK:=Ar w3 (S #[H .u32 0,V R 0 0,V R 0 0] 215);have hbs:=As w3 (S #[H .u32 0,V R 0 0,V R 0 0] 215);have HB3:=wM hb3;clear hb3)
    |(with_reducible refine BD rfl 215 EG (.tmp 6) (.tmp 24) rfl w3.heap.size rfl _ _ _ _ _ _ rfl rfl rfl rfl _ JK ?_;intro w4 hw4 hr4
      have hb4:=hbs.trans (hw4.below (At _));have HB14:=wM (HB3.out.trans (hb4.mono HB3.out.size));have HB4:=wM (HB1.out.trans (HB14.out.mono HB1.out.size));have HC5:=wM (Chg.of_below (P:=P) HB14.out);have HC05:=wM (Chg.of_below (P:=P) HB4.out);have KF1:=wM (KF.out _ HB4.out);clear JK hbs hw4 hb4 hr4)
    |(go_at_call 123;(with_reducible refine KF1.out.mono ?_);rintro e w7 ⟨rfl,P7,hd7,pj⟩)
    |(go_at_call 124;(with_reducible refine(KQ.out _ _ (HV1.out.chg (HC5.out.trans pj)).sl).mono ?_);rintro e w8 ⟨y,z,rfl,hb8,hy⟩))
   go_ret2;exact RecQ.done HR.out HOK.out (hd7.below hb8) ((HC05.out.trans pj).trans (Chg.of_below hb8)) (fun h=>by rw[hy (HHD.out h)];rfl) (u32_in (y+1))
end
def m4(N:List Int):Bool:=(Bu N.length).any fun k=>decide (3<=N.getD k 0) && decide (N.getD k 0<43)
theorem ay(N:List Int):m4 N=Ay ↔ ∀ k,k<N.length->¬ (3<=N.getD k 0/\N.getD k 0<43):=by
 unfold m4;rw[List.any_eq_false];constructor
 . intro h k hk hc
   exact h k (Bd.2 hk) (by rw[AQ,A4,A4];exact hc)
 . intro h k hk
   have:=h k (Bd.1 hk);simp only[AQ,A4];exact this
theorem BBR.row{w:Ai}{B g n cap:Nat}{L:List (List Int)}(h:BBR w B (V (I ⟨g,0,R⟩) n cap) L):∃ cur:Array Ao,w.heap[g]? =I (S cur 77 (0,0))/\L.length<=cur.size/\B<=g:=by
 obtain⟨vs,hl,hr,ho⟩:=h;rcases ho.2 with⟨hv,_⟩| ⟨g',cap',cur,hv,hg,hh,Ii,Jq,Jr,ht⟩
 . simp at hv
 . obtain rfl:g=g':=by have:=A0 (AY hv).1;injection this
   exact⟨cur,hh,by omega,hg⟩
theorem BBR.set{w:Ai}{B g n cap:Nat}{L:List (List Int)}(h:BBR w B (V (I ⟨g,0,R⟩) n cap) L){x:Nat}(hx:x<L.length){y:Ao}{l:List Int}(hy:BElt w B y l):BBR (w.setCell ⟨g,x,R⟩ y) B (V (I ⟨g,0,R⟩) n cap) (L.set x l):=by
 obtain⟨vs,hl,hr,ho⟩:=h;rcases ho.2 with⟨hv,_⟩| ⟨g',cap',cur,hv,hg,hh,Ii,Jq,Jr,ht⟩
 . simp at hv
 . obtain rfl:g=g':=by have:=A0 (AY hv).1;injection this
   have hw:=Wrote.setCell w g x y;have hgr:w.grownBy (w.setCell ⟨g,x,R⟩ y) (I g):=
    ⟨hw.1,hw.2.1,hw.2.2.1,by rw[hw.2.2.2.1];exact At _,fun b hb hne=>hw.2.2.2.2 b (fun e=>hne (by rw[e]))⟩
   have hrow:∀ g',I g=I g'->B<=g'/\∃ cur,w.heap[g']? =I (S cur 77 (0,0)):=fun g' e=>by
    obtain rfl:=A0 e;exact⟨hg,_,hh⟩
   refine⟨vs.set x y,by rw[AF,AF];exact hl,fun j hj=>?_,by rw[AF,AF];exact ho.1,AW ⟨g,cap',cur.setIfInBounds x y,by rw[AF];exact hv,hg,?_,by rw[AF];exact Ii,Jq,by rw[Array.size_setIfInBounds];exact Jr,?_⟩⟩
   . rw[AF] at hj
     by_cases e:j=x
     . subst e
       have e1:(vs.set j y).getD j undef=y:=(by simp[hl,hx]);have e2:(L.set j l).getD j []=l:=(by simp[hx]);rw[e1,e2];exact hy.grown hrow hgr
     . have e1:(vs.set x y).getD j undef=vs.getD j undef:=by rw[An,Bp (by omega),<- An]
       have e2:(L.set x l).getD j []=L.getD j []:=(by rw[An,Bp (by omega),<- An]);rw[e1,e2];exact(hr j hj).grown hrow hgr
   . exact A8 w g x _ _ _ hh
   . rw[AF,Array.toList_setIfInBounds,List.take_set,ht]
theorem rt{N:List Int}{D:List (List Int)}{z n:Nat}(hF:Gf N D=AE)(hH:OM z N=AE)(hJ:m4 N=Ay)(hz:z<=n):de n N:=fun j hj=>by
 have h1:=(EJ hF).2.2 j hj;have h2:=(J8 _ _).1 hH j hj;have h3:=(ay N).1 hJ j hj;unfold D6;omega
section
variable {q1 q2:Int}{N1 N2:List Int}{D1 D2 Z G:List (List Int)}{er:Int}
theorem KV{s:DS}(h:s.U=[]):s.vis=s.F:=by unfold DS.vis;rw[h];rfl
end
def eqO(A B:List (List Int)):Prop:=A.length=B.length/\∀ i,D6 i->i<B.length->A.getD i []=B.getD i []
theorem eqO.refl(A:List (List Int)):eqO A A:=⟨rfl,fun _ _ _=>rfl⟩
theorem eqO.trans{A B C:List (List Int)}(h:eqO A B)(k:eqO B C):eqO A C:=⟨h.1.trans k.1,fun i ho hi=>(h.2 i ho (by rw[k.1];exact hi)).trans (k.2 i ho hi)⟩
def okT(n:Nat)(N:List Int)(D:List (List Int)):Prop:=Gf N D=AE/\OM n N=AE/\m4 N=Ay
theorem okT.far{n:Nat}{N:List Int}{D:List (List Int)}(h:okT n N D):de n N:=rt h.1 h.2.1 h.2.2 (At _)
theorem okT.takes{n:Nat}{N:List Int}{D:List (List Int)}(h:okT n N D)(OP:64<=n):Gl n N D=AE:=by
 unfold Gl;rw[Az OP,h.1,h.2.1];rfl
theorem VY{N:List Int}{D A B:List (List Int)}(hF:Gf N D=AE)(h:eqO A B):eqO (Cb (Ci N D) A) (Cb (Ci N D) B):=by
 refine⟨by rw[BU,BU];exact h.1,fun i ho hi=>?_⟩;rw[BU] at hi;exact UI hF A B h.1 i hi (AU (h.2 i ho hi))
def Jst(n:Nat)(F G:List (List Int)):Prop:=
 F.length=n/\G.length=n/\((∃ q N D Z,okT n N D/\InvT F q N D Z/\eqO (Cb (Ci N D) Z) G)\/InvN F G)
def Lst(n:Nat)(s:DS)(G:List (List Int)):Prop:=
 s.F.length=n/\eqO s.vis G/\((∃ q N D Z,okT n N D/\InvT s.F q N D Z/\(∀ x∈s.U,x∈Ci N D)/\eqO (Cb (Ci N D) Z) G)\/(InvN s.F G/\s.U=[]))
theorem InvN.toO{F G G':List (List Int)}(h:InvN F G)(k:eqO G G'):InvN F G':=⟨h.1.trans k.1,h.2.1,fun i ho hi=>(h.2.2 i ho (by rw[k.1];exact hi)).trans (k.2 i ho hi)⟩
theorem Jst.toO{n:Nat}{F G G':List (List Int)}(h:Jst n F G)(k:eqO G G'):Jst n F G':=by
 obtain⟨h1,h2,h3⟩:=h;refine⟨h1,k.1.symm.trans h2,h3.imp (fun⟨q,N,D,Z,a,b,c⟩=>⟨q,N,D,Z,a,b,c.trans k⟩) (fun h=>h.toO k)⟩
theorem Lst.toO{n:Nat}{s:DS}{G G':List (List Int)}(h:Lst n s G)(k:eqO G G'):Lst n s G':=by
 obtain⟨h1,h2,h3⟩:=h;exact⟨h1,h2.trans k,h3.imp (fun⟨q,N,D,Z,a,b,c,e⟩=>⟨q,N,D,Z,a,b,c,e.trans k⟩) (fun h=>⟨h.1.toO k,h.2⟩)⟩
theorem Lst.glen{n:Nat}{s:DS}{G:List (List Int)}(h:Lst n s G):G.length=n:=by rw[<- h.2.1.1,DS.vis_length,h.1]
theorem Lst.pay{n:Nat}{s:DS}{G:List (List Int)}(h:Lst n s G):Lst n s.pay G:=h
theorem Lst.crash{n:Nat}{s:DS}{G:List (List Int)}(h:Lst n s G)(ZM:43<=n)(kp:Nat->Bool):Jst n (Cb (DV kp s.U) s.F) G:=by
 have hg:=h.glen;obtain⟨h1,h2,h3⟩:=h;refine⟨by rw[BU];exact h1,hg,?_⟩;rcases h3 with⟨q,N,D,Z,a,b,c,e⟩| ⟨a,b⟩
 . have hz:Z.length=n:=b.1.symm.trans h1
   exact AU ⟨q,N,D,Z,a,b.home a.1 (by rw[hz];exact a.far) (by omega) fun x hx=>c x (Hn hx),e⟩
 . rw[b]
   exact AW a
theorem YW{q2:Int}{N2:List Int}{D2 G:List (List Int)}(hG:43<=G.length){W:List (Nat × List Int)}(hW:rE q2 N2 D2 W)(pd:Gf N2 D2=AE)(sh:0<=q2/\q2<4294967296)(s:DS)(hs:InvN s.F G)(hU:s.U=[])(kp:Nat->Bool):
 let r:=BC (Dl q2 W) s
 (InvN (Cb (DV kp r.2.U) r.2.F) G/\r.1=2\/InvT (Cb (DV kp r.2.U) r.2.F) q2 N2 D2 G)/\
   (r.1=0->r.2.U=[]/\InvT r.2.F q2 N2 D2 G/\∀ i,D6 i->i<G.length->r.2.F.getD i []=G.getD i []):=by
 intro r;obtain⟨k,hk,Ly,hr⟩:=H7 (Dl q2 W) s;have Lz:r.2.F=(FZ ((Dl q2 W).take k) s.fuP).1:=Bt Prod.fst Ly;have Lr:r.2.U=(FZ ((Dl q2 W).take k) s.fuP).2:=Bt Prod.snd Ly;have hlen:(Dl q2 W).length=6+W.length:=by simp[Dl];omega
 have bk:=hs.1;obtain⟨V0,mj⟩:=nm s.F;have hfu0:s.fuP=(V0,[]):=by rw[mj,<- hU];rfl
 have hN0:InvN V0 G:=by rw[mj];exact hs
 rw[hfu0] at Lz Lr;obtain⟨V1,gR⟩:=nm (V0.set 42 z256);have pi:V0.length=G.length:=hN0.1;have ZK:V1.length=G.length:=by rw[gR,AF,pi]
 have out42:∀ i,D6 i->42≠i:=fun i hi e=>by rcases hi with h|h <;> omega
 have hN1:InvN V1 G:=⟨ZK,by rw[gR];exact Mh _ _ _ (by omega),fun i hi hl=>by rw[gR,F3 _ _ _ _ (out42 i hi)];exact hN0.2.2 i hi hl⟩;have uz:∀ X,(∀ x∈X,x∈W)->InvN (Cb X V1) G:=fun X hX=>by
  refine⟨by rw[BU,ZK],?_,fun i hi hl=>?_⟩
  . rw[Dj X V1 42 fun x hx e=>by have:=(hW.1 x (hX x hx)).2;omega];exact hN1.2.1
  . rw[Dj X V1 i fun x hx e=>by have:=hW.1 x (hX x hx);rcases hi with h|h <;> omega]
    exact hN1.2.2 i hi hl
 obtain⟨V2,Uv⟩:=nm (Cb W V1);have si:V2.length=G.length:=by rw[Uv,BU,ZK]
 have hN2:InvN V2 G:=by rw[Uv];exact uz W fun x hx=>hx
 obtain⟨V3,ZL⟩:=nm (V2.set 42 (BK (DX q2)));have sj:V3.length=G.length:=by rw[ZL,AF,si]
 obtain⟨hd,hbl⟩:=hW.2 V1 (by omega);have JJ:=(EJ pd).1;have hT3:Io (Ey V3) q2 N2 D2:=by
  refine Wh (by omega) pd sh ?_ (fun j hj=>?_) ?_
  . rw[ZL,F3 _ _ _ _ (by omega),Uv];exact hd
  . rw[ZL,F3 _ _ _ _ (by omega),Uv];exact hbl j hj
  . rw[ZL];exact Mh _ _ _ (by omega)
 have lL:∀ i,D6 i->i<G.length->V3.getD i []=G.getD i []:=fun i hi hl=>by rw[ZL,F3 _ _ _ _ (out42 i hi)];exact hN2.2.2 i hi hl
 have sk:InvT V3 q2 N2 D2 G:=⟨sj,hT3,fun i hi hl=>AU (lL i hi hl)⟩;have a1:FZ [.f,.w 42 z256,.f] (V0,[])=(V1,[]):=by
  show(Cb ([] ++ [(42,z256)]) (Cb [] V0),([]:List (Nat × List Int)))=(V1,[])
  rw[gR];rfl
 have full:k=(Dl q2 W).length->r.2.F=V3/\r.2.U=[]:=fun e=>by
  rw[Lz,Lr,e,BP];unfold Dl;rw[Cn,Cn,Gm,a1];show(Cb ([] ++ [(42,BK (DX q2))]) (Cb ([] ++ W) V1))=V3/\_
  rw[ZL,Uv];exact⟨rfl,rfl⟩
 refine⟨?_,fun h0=>?_⟩
 . have Lx:k=0\/k=1\/k=2\/(3<=k/\k<=3+W.length)\/k=4+W.length\/k=5+W.length\/k=6+W.length:=by omega
   have h2:k≠(Dl q2 W).length->r.1=2:=fun hne=>by
    rcases hr with⟨_,h⟩|h
    . exact absurd h hne
    . exact h
   have step:∀ j,(Dl q2 W).take (3+j)=([PA.f,PA.w 42 z256,PA.f]:List PA) ++ ((W.map fun y:Nat × List Int=>PA.w y.1 y.2) ++ [PA.f,PA.w 42 (BK (DX q2)),PA.f]).take j:=fun j=>by
    unfold Dl;rw[A7];exact DJ (l₁:=([PA.f,PA.w 42 z256,PA.f]:List PA)) j
   rcases Lx with rfl|rfl|rfl| ⟨ha,hb⟩|rfl|rfl|rfl
   . have e1:r.2.F=V0:=Lz
     have e2:r.2.U=[]:=Lr;rw[e1,e2];exact AU ⟨hN0,h2 (by omega)⟩
   . have e1:r.2.F=V0:=Lz
     have e2:r.2.U=[]:=Lr;rw[e1,e2];exact AU ⟨hN0,h2 (by omega)⟩
   . have e1:r.2.F=V0:=Lz
     have e2:r.2.U=[(42,z256)]:=Lr;rw[e1,e2];rcases Ky kp (42,z256) with e|e
     . rw[e];exact AU ⟨hN0,h2 (by omega)⟩
     . rw[e]
       refine AU ⟨?_,h2 (by omega)⟩;show InvN (V0.set 42 z256) G
       rw[<- gR];exact hN1
   . obtain⟨j,rfl⟩:∃ j,k=3+j:=⟨k-3,by omega⟩
     have hj:j<=W.length:=(by omega);rw[step,Do (by simpa using hj),<- List.map_take,Cn,a1,Gm] at Lz Lr;rw[Lz,Lr];refine AU ⟨uz _ fun x hx=>?_,h2 (by omega)⟩;have:=Hn hx;rw[List.nil_append] at this;exact DB this
   . have e0:(Dl q2 W).take (4+W.length)=[.f,.w 42 z256,.f] ++ ((W.map fun y=>PA.w y.1 y.2) ++ [.f]):=by
      rw[show 4+W.length=3+(W.length+1) by omega,step];congr 1;rw[show W.length+1=(W.map fun y=>PA.w y.1 y.2).length+1 by simp,DJ];rfl
     rw[e0,Cn,Cn,a1,Gm] at Lz Lr;have e1:r.2.F=V2:=(by rw[Uv];exact Lz);have e2:r.2.U=[]:=Lr;rw[e1,e2];exact AU ⟨hN2,h2 (by omega)⟩
   . have e0:(Dl q2 W).take (5+W.length)=[.f,.w 42 z256,.f] ++ ((W.map fun y=>PA.w y.1 y.2) ++ [.f,.w 42 (BK (DX q2))]):=by
      rw[show 5+W.length=3+(W.length+2) by omega,step];congr 1;rw[show W.length+2=(W.map fun y=>PA.w y.1 y.2).length+2 by simp,DJ];rfl
     rw[e0,Cn,Cn,a1,Gm] at Lz Lr;have e1:r.2.F=V2:=(by rw[Uv];exact Lz);have e2:r.2.U=[(42,BK (DX q2))]:=Lr;rw[e1,e2];rcases Ky kp (42,BK (DX q2)) with e|e
     . rw[e];exact AU ⟨hN2,h2 (by omega)⟩
     . rw[e]
       refine AW ?_;show InvT (V2.set 42 (BK (DX q2))) q2 N2 D2 G
       rw[<- ZL];exact sk
   . obtain⟨e1,e2⟩:=full (by omega)
     rw[e1,e2];exact AW sk
 . have SI:k=(Dl q2 W).length:=by
    rcases hr with⟨_,h⟩|h
    . exact h
    . have h0':(BC (Dl q2 W) s).1=0:=h0
      rw[h0'] at h;cases h
   obtain⟨e1,e2⟩:=full SI;rw[e1,e2];exact⟨rfl,sk,lL⟩
def Mst(n:Nat)(s:DS)(q:Int)(N:List Int)(D G:List (List Int)):Prop:=s.U=[]/\s.F.length=n/\InvT s.F q N D G/\eqO s.F G
theorem Lst.write{n:Nat}{s:DS}{G:List (List Int)}(h:Lst n s G)(ZM:43<=n){q:Int}{N:List Int}{D:List (List Int)}(hT:okT n N D)(hq:0<=q/\q<4294967296):
 let r:=BC (Dl q (Ee q N D)) s
 (∀ kp,r.1=2->Jst n (Cb (DV kp r.2.U) r.2.F) G\/Jst n (Cb (DV kp r.2.U) r.2.F) (Cb (Ci N D) G))/\(r.1=0->Mst n r.2 q N D G):=by
 intro r;have hg:=h.glen;obtain⟨h1,h2,h3⟩:=h;have hl:r.2.F.length=n:=(FD _ s).1.trans h1;have lN:∀ kp,(Cb (DV kp r.2.U) r.2.F).length=n:=fun kp=>by rw[BU,hl]
 have hGn:(Cb (Ci N D) G).length=n:=by rw[BU,hg]
 rcases h3 with⟨q1,N1,D1,Z,a,b,c,e⟩| ⟨a,b⟩
 . have hz:Z.length=n:=b.1.symm.trans h1
   have po:∀ i,D6 i->i<Z.length->s.vis.getD i []=(Cb (Ci N1 D1) Z).getD i []:=fun i ho hi=>by
    rw[hz] at hi;exact(h2.2 i ho (by omega)).trans (e.2 i ho (by omega)).symm
   have key:=fun kp=>fa (q1:=q1) (q2:=q) (by omega) (ZZ hT.1) a.1 (by rw[hz];exact a.far) hT.1 hq s b c po kp
   refine⟨fun kp h2'=>?_,fun h0=>?_⟩
   . rcases(key kp).1 with⟨k1,_⟩| ⟨k1,_⟩|k1
     . exact AU ⟨lN kp,hg,AU ⟨q1,N1,D1,Z,a,k1,e⟩⟩
     . exact AU ⟨lN kp,hg,AW (k1.toO e)⟩
     . exact AW ⟨lN kp,hGn,AU ⟨q,N,D,_,hT,k1,VY hT.1 e⟩⟩
   . obtain⟨k1,k2,k3⟩:=(key fun _=>AE).2 h0
     have hge:eqO r.2.F G:=⟨by rw[hl,hg],fun i ho hi=>(k3 i ho (by omega)).trans (e.2 i ho hi)⟩;refine⟨k1,hl,⟨by rw[hl,hg],k2.2.1,fun i ho hi=>AU (hge.2 i ho hi)⟩,hge⟩
 . have key:=fun kp=>YW (q2:=q) (by omega) (ZZ hT.1) hT.1 hq s a b kp
   refine⟨fun kp h2'=>?_,fun h0=>?_⟩
   . rcases(key kp).1 with⟨k1,_⟩|k1
     . exact AU ⟨lN kp,hg,AW k1⟩
     . exact AW ⟨lN kp,hGn,AU ⟨q,N,D,_,hT,k1,eqO.refl _⟩⟩
   . obtain⟨k1,k2,k3⟩:=(key fun _=>AE).2 h0
     exact⟨k1,hl,k2,⟨by rw[hl,hg],fun i ho hi=>k3 i ho hi⟩⟩
theorem Mst.home{n:Nat}{s:DS}{q:Int}{N:List Int}{D G:List (List Int)}(h:Mst n s q N D G)(ZM:43<=n)(hT:okT n N D):
 let r:=BC (B7 N D) s
 (∀ kp,Jst n (Cb (DV kp r.2.U) r.2.F) (Cb (Ci N D) G))/\(r.1=0->Lst n r.2 (Cb (Ci N D) G)):=by
 intro r;obtain⟨h1,h2,h3,h4⟩:=h;have hg:G.length=n:=h4.1.symm.trans h2;have hl:r.2.F.length=n:=(FD _ s).1.trans h2;have key:∀ kp,InvT (Cb (DV kp r.2.U) r.2.F) q N D G:=fun kp=>by
  have:=(PY hT.1 (by rw[hg];exact hT.far) (by omega) s h3 (by rw[h1];intro x hx;cases hx) Ay kp).1;rw[show(if (Ay:Bool)=AE then [PA.f] else [])=[] from rfl,BW] at this;exact this
 refine⟨fun kp=>⟨by rw[BU,hl],by rw[BU,hg],AU ⟨q,N,D,G,hT,key kp,eqO.refl _⟩⟩,fun h0=>?_⟩;obtain⟨k,hk,Ly,hr⟩:=H7 (B7 N D) s;have SI:k=(B7 N D).length:=by
  rcases hr with⟨_,h⟩|h
  . exact h
  . have h0':(BC (B7 N D) s).1=0:=h0
    rw[h0'] at h;cases h
 have Lz:r.2.F=(FZ ((B7 N D).take k) s.fuP).1:=Bt Prod.fst Ly;have Lr:r.2.U=(FZ ((B7 N D).take k) s.fuP).2:=Bt Prod.snd Ly;rw[SI,Jh] at Lz Lr;have e3:(Ci N D).take (B7 N D).length=Ci N D:=AR (by simp[B7]);rw[e3] at Lr;have e1:r.2.F=s.F:=Lz;have e2:r.2.U=Ci N D:=by rw[Lr];show s.U ++ _=_;rw[h1,List.nil_append]
 refine⟨hl,?_,AU ⟨q,N,D,G,hT,by rw[e1];exact h3,(fun x hx=>by rw[e2] at hx;exact hx),eqO.refl _⟩⟩;show eqO (Cb r.2.U r.2.F) _
 rw[e1,e2];exact VY hT.1 h4
theorem run_fu(a:PA)(s:DS):(a.run s).fu=s.fu:=by cases a <;> rfl
theorem O4:∀ (A:List PA) (s:DS),(BC A s).2.fu=s.fu
 |[],s=>rfl
 |a :: A,s=>by
  rw[Ej];split
  . exact(O4 A _).trans (run_fu a s)
  . rfl
theorem We{w:Ai}{P:Nat->Prop}{p:Ao}{s:DS}(h:Dk w P p s){n:Nat}{G:List (List Int)}(OP:64<=n)(hU:s.U=[])(hd:s.dn=Ay)(hJ:Jst n s.F G):
 Av Ae 80 #[p] w fun e w'=>∃ x r s' P',e=Aj (AH #[H .u32 x,H E r])/\Dk w' P' p s'/\Chg P P' w w'/\s'.U.length<=1000/\s'.F.length=n/\(r=0\/r=2)/\(∀ k,Jst n (s'.crash k).F G)/\(r=0->s'.dn=Ay/\s'.U=[]/\Lst n s' G)/\(s.fu=Ay->r=0)/\(0<=x/\x<4294967296)/\s'.fu=s.fu:=by
 have hJ':=hJ;obtain⟨Ux,hg,hI⟩:=hJ;have hv:=KV hU;have hU0:s.U.length<=900000:=by rw[hU];show 0<=900000;omega
 have uD:∀ (A:List PA) (t:DS),(BC A t).1=0->t.dn=Ay->(BC A t).2.dn=Ay:=by
  intro A;induction A with
  |nil=>intro t _ h;exact h
  |cons a A ih=>
   intro t h0 tm;rw[Ej] at h0 |-
   cases hok:t.ok
   . rw[hok,Ax CF] at h0
     exact absurd (show(2:Int)=0 from h0) (by decide)
   . rw[hok,Au rfl] at h0
     rw[Au rfl];refine ih _ h0 ?_;have:WZ t.fu t.le t.dn=Ay:=by
      unfold DS.ok mb at hok;unfold WZ
      revert hok
      rw[tm];cases t.fu <;> simp
     cases a <;> exact this
 rcases hI with⟨q,N,D,Z,hT,hI,he⟩|hN
 . have hz:Z.length=n:=hI.1.symm.trans Ux
   have l37:=(EJ hT.1).1;have hc:∀ kp,InvT (Cb (DV kp (BC (B7 N D ++ [.f]) s).2.U) (BC (B7 N D ++ [.f]) s).2.F) q N D Z/\InvT (BC (B7 N D ++ [.f]) s).2.F q N D Z/\(∀ x∈(BC (B7 N D ++ [.f]) s).2.U,x∈Ci N D):=fun kp=>PY hT.1 (by rw[hz];exact hT.far) (by omega) s hI (by rw[hU];intro x hx;cases hx) AE kp
   have hlen:=FD (B7 N D ++ [.f]) s;rw[AD,Fh,hU] at hlen;have hfree:=fun h1=>Lh (B7 N D ++ [.f]) s h1 hd
   refine(Tl h (by omega) hd hU0 (q:=q) (N:=N) (D:=D) ⟨by rw[hv];exact hI.2.1,by rw[Ux];exact hT.2.1⟩).mono ?_;rintro e w' ⟨x,rfl,⟨P',hk,uE⟩,_,Xb⟩;refine⟨x,_,_,P',rfl,hk,uE,by have:=hlen.2;simp at this;omega,hlen.1.trans Ux,FG _ _,fun k=>⟨by show(Cb _ _).length=n;rw[BU,hlen.1,Ux],hg,AU ⟨q,N,D,Z,hT,(hc (fK k)).1,he⟩⟩,fun h0=>?_,fun h1=>(hfree h1).1,Xb,O4 _ _⟩;obtain⟨k,hk',Ly,hr⟩:=H7 (B7 N D ++ [.f]) s;have SI:k=(B7 N D ++ [PA.f]).length:=by
    rcases hr with⟨_,h⟩|h
    . exact h
    . rw[h0] at h;cases h
   rw[SI,BP,Cn] at Ly;have e2:=Jh N D (B7 N D).length s.fuP;rw[BP] at e2;have e3:(Ci N D).take (B7 N D).length=Ci N D:=AR (by simp[B7]);rw[e3] at e2;rw[e2] at Ly;have a1:(BC (B7 N D ++ [.f]) s).2.F=Cb (s.U ++ Ci N D) s.F:=Bt Prod.fst Ly;have a2:(BC (B7 N D ++ [.f]) s).2.U=[]:=Bt Prod.snd Ly;rw[hU,List.nil_append] at a1;refine⟨uD _ _ h0 hd,a2,hlen.1.trans Ux,?_,AU ⟨q,N,D,Z,hT,(hc fun _=>AE).2.1,(fun x hx=>by rw[a2] at hx;cases hx),he⟩⟩;rw[KV a2,a1];exact eqO.trans ⟨by rw[BU,BU,Ux,hz],fun i ho hi=>hI.done hT.1 i ho (by rw[BU] at hi;exact hi)⟩ he
 . have CU:∀ q N D,¬ Pa s.F.length (Ey s.vis) q N D:=fun q N D ht=>eO (by rw[DS.vis_length];omega) (by rw[hv];exact hN.2.1) q N D ht.1
   have hst:(BC ([] ++ [.f]) s).2.F=s.F/\(BC ([] ++ [.f]) s).2.U=[]:=by
    rw[List.nil_append,Ej];cases hok:s.ok
    . rw[Ax CF]
      exact⟨rfl,hU⟩
    . rw[Au rfl]
      exact⟨hv,rfl⟩
   have hfree:=fun h1=>Lh ([] ++ [.f]) s h1 hd
   refine(VI h (by omega) hd hU0 CU).mono ?_;rintro e w' ⟨x,rfl,⟨P',hk,uE⟩,_,Xb⟩;refine⟨x,_,_,P',rfl,hk,uE,by rw[hst.2];show 0<=1000;omega,by rw[hst.1];exact Ux,FG _ _,fun k=>?_,fun h0=>?_,fun h1=>(hfree h1).1,Xb,O4 _ _⟩
   . show Jst n (Cb (DV (fK k) _) _) G
     rw[hst.1,hst.2];exact⟨Ux,hg,AW hN⟩
   . refine⟨uD _ _ h0 hd,hst.2,by rw[hst.1];exact Ux,?_,AW ⟨by rw[hst.1];exact hN,hst.2⟩⟩
     rw[KV hst.2,hst.1];exact⟨by rw[Ux,hg],hN.2.2⟩
end
section
open Go.RowKit BM
def FJ(O:List (Int × Int))(g:Nat):List (Int × Int):=(O.drop (64*g)).take 64
theorem FS{O:List (Int × Int)}{k g:Nat}(h:O.length=64*k)(hg:g<k):(FJ O g).length=64:=by
 unfold FJ;rw[AJ,Bn];omega
theorem JL(O:List (Int × Int))(g:Nat){j:Nat}(hj:j<64):(FJ O g).getD j (0,0)=O.getD (64*g+j) (0,0):=by
 unfold FJ;rw[An,AZ,Au hj,Bk,An]
structure OOk (O:List (Int × Int)) (k:Nat):Prop where
 len:O.length=64*k
 k1:1<=k
 k12:k<=12
 bd:OwB O
 frm:∀ j,j<64*k->NJ O j=AE
 fx:∀ j,j<64*k->decide ((O.getD j (0,0)).1=65535)=CR (j:Int)
theorem OOk.gr{O:List (Int × Int)}{k g:Nat}(h:OOk O k)(hg:g<k):OwB (FJ O g)/\FM (FJ O g)=AE/\∀ j,j<64->decide (((FJ O g).getD j (0,0)).1=65535)=CR (64*(g:Int)+j):=by
 have hl:=FS h.len hg;refine⟨JS fun j hj=>?_,?_,fun j hj=>?_⟩
 . rw[JL O g (by omega)];exact h.bd _
 . rw[FM,hl,(Mw _ 64).2 fun j hj=>?_];· rfl
   have:=h.frm (64*g+j) (by omega);unfold NJ at this |-
   rw[JL O g hj];exact this
 . rw[JL O g hj,h.fx _ (by omega)];congr 1
def Ch(g:Nat):Nat:=if g=0 then 1 else 64*g
theorem SU{g:Nat}(hg:g<12):Hr (g:Int)=(Ch g:Int):=by
 unfold Hr Ch;rw[Au (by omega)];by_cases h:g=0
 . subst h;rfl
 . rw[Ax (by omega),Ax h];omega
theorem XS{g:Nat}(hg:g<12):PD (g:Int)=(Ch g:Int)+1:=by
 unfold PD;rw[Au (by omega),SU hg]
theorem Ji{g k:Nat}(hg:g<k):Ch g+1<64*k/\D6 (Ch g)/\D6 (Ch g+1):=by
 unfold Ch D6;split <;> omega
theorem Ug{g m:Nat}(h:g≠m):Ch g≠Ch m/\Ch g+1≠Ch m/\Ch g≠Ch m+1:=by
 unfold Ch;split <;> split <;> omega
structure Has (G:List (List Int)) (O:List (Int × Int)) (k:Nat):Prop where
 len:G.length=64*k
 ds:∀ g,g<k->G.getD (Ch g) []=Gz (g:Int) (CQ (FJ O g) 64)
 ow:∀ g,g<k->G.getD (Ch g+1) []=DM (FJ O g)
def putG(G:List (List Int))(g:Nat)(D:List (Int × Int)):List (List Int):=(G.set (Ch g+1) (DM D)).set (Ch g) (Gz (g:Int) (CQ D 64))
end
section
open Go.RowKit
def num(L:List Int)(i:Nat):Int:=L.getD i 0
def Ih(i:Nat):Nat:=if i=1 then 1 else 2
def pos:Nat->Nat
 |0=>8
 |i+1=>pos i+Ih i
def Zv:List Int:=[97,115,104,108,97,114,32,49]
def GU(L:List Int):Nat->List Int
 |0=>Zv
 |i+1=>GU L i ++ BT (num L i) (Ih i)
theorem EA(L:List Int):∀ i,(GU L i).length=pos i
 |0=>rfl
 |i+1=>by rw[GU,AD,EA L i,Bc];rfl
def ac(tg cu io ba:Int):Bool:=(tg==0) && ((cu==0) && ((io==0) && (ba==0)))
def wd(b tg cu io ba:Int):Bool:=CY tg && (decide (b<tg) && (decide (b / 64<=cu/\cu<=tg / 64) && ((io==0) && (ba==0))))
def WX(b tg cu io ba:Int):Bool:=CY tg && (decide (tg<b) && ((cu==0) && ((io==0) && (ba==0))))
def l9(b tg cu io ba:Int):Bool:=(tg==0) && (decide (1<=io/\io<=47) && (decide (0<=ba/\ba<=b) && decide (0<=cu/\cu<=b)))
def qW(b st tg cu io ba:Int):Bool:=if st=0 then ac tg cu io ba else if st=1 then wd b tg cu io ba else if st=2 then WX b tg cu io ba else if st=3 then l9 b tg cu io ba else Ay
def GA(L:List Int):Bool:=qW (num L 0) (num L 1) (num L 2) (num L 3) (num L 4) (num L 5)
def XE(L:List Int)(i:Nat):Prop:=(0<=num L (6+i)/\num L (6+i)<=num L 0-1)/\CR (num L (6+i))=Ay/\∀ k,k<i->num L (6+k)≠num L (6+i)
open Classical in
noncomputable def Lu(L:List Int):Nat->Bool
 |0=>AE
 |i+1=>Lu L i && decide (XE L i)
open Classical in
theorem I4(L:List Int):∀ n,Lu L n=AE ↔ ∀ i,i<n->XE L i
 |0=>⟨fun _ i h=>absurd h (A9 _),fun _=>rfl⟩
 |n+1=>by
  rw[Lu,AQ,I4 L n,A4];refine⟨fun⟨h1,h2⟩ i hi=>?_,fun h=>⟨fun i hi=>h i (by omega),h n (by omega)⟩⟩;by_cases e:i=n
  . rw[e];exact h2
  . exact h1 i (by omega)
theorem Qs{L:List Int}{j:Nat}(h:Lu L j=AE)(hk:XE L j):Lu L (j+1)=AE:=
 (I4 L (j+1)).2 fun i hi=>by
   by_cases e:i=j
   . rw[e];exact hk
   . exact(I4 L j).1 h i (by omega)
noncomputable def GP(L:List Int):Bool:=Lu L 6
noncomputable def DP(L:List Int):Bool:=CY (num L 0) && (GA L && GP L)
noncomputable def UL(L:List Int):Int:=if DP L=AE then (if num L 1=2 then num L 2 else num L 0) else 0
def Gj(L:List Int):List Int:=BK (GU L 12)
def QQ(l:List Int):List Int:=(Bu 12).map fun i=>Cl l (pos i) (Ih i)
theorem Ht(l:List Int):(QQ l).length=12:=by simp[QQ]
theorem af(l:List Int)(i:Nat)(h:i<12):num (QQ l) i=Cl l (pos i) (Ih i):=by
 simp[num,QQ,h]
def qV(l:List Int):Prop:=Fx l/\DP (QQ (l.take 252))=AE/\Gj (QQ (l.take 252))=l
def tP(l:List Int):List Int:=QQ (l.take 252)
theorem Ni{L:List Int}(h:DP L=AE):CY (num L 0)=AE/\GA L=AE/\GP L=AE:=by
 simpa [DP] using h
theorem Kx{L:List Int}(h:GP L=AE):∀ i,i<6->XE L i:=(I4 L 6).1 h
theorem Tt{L:List Int}(h:DP L=AE):∀ i,i<12->0<=num L i/\num L i<256 ^ Ih i:=by
 obtain⟨h1,h2,h3⟩:=Ni h;have hb:=AX h1;have hst:num L 1=0\/num L 1=1\/num L 1=2\/num L 1=3:=by
  unfold GA qW at h2;split at h2
  . exact AU ‹_›
  . split at h2
    . exact AW (AU ‹_›)
    . split at h2
      . exact AW (AW (AU ‹_›))
      . split at h2
        . exact AW (AW (AW ‹_›))
        . cases h2
 have Uw:∀ {t:Int},CY t=AE->0<=t/\t<=768:=fun h=>by have:=AX h;omega
 have hq:(0<=num L 2/\num L 2<=768)/\(0<=num L 3/\num L 3<=768)/\(0<=num L 4/\num L 4<=768)/\(0<=num L 5/\num L 5<=768):=by
  unfold GA qW at h2;rcases hst with e|e|e|e
  . rw[e] at h2;simp only[if_true,ac,AQ,Da] at h2;omega
  . rw[e] at h2
    simp only[show ¬ (1:Int)=0 by decide,if_false,if_true,wd,AQ,Da,A4] at h2;have:=Uw h2.1;omega
  . rw[e] at h2
    simp only[show ¬ (2:Int)=0 by decide,show ¬ (2:Int)=1 by decide,if_false,if_true,WX,AQ,Da,A4] at h2;have:=Uw h2.1;omega
  . rw[e] at h2
    simp only[show ¬ (3:Int)=0 by decide,show ¬ (3:Int)=1 by decide,show ¬ (3:Int)=2 by decide,if_false,if_true,l9,AQ,Da,A4] at h2;omega
 have ht:=Kx h3;intro i hi;have w2:∀ j,j≠1->(256:Int) ^ Ih j=65536:=fun j hj=>by rw[Ih,Ax hj];rfl
 by_cases h0:i=0
 . subst h0;rw[w2 0 (by decide)];omega
 by_cases h1:i=1
 . subst h1;rw[show(256:Int) ^ Ih 1=256 from rfl];omega
 rw[w2 i h1];by_cases h6:i<6
 . have:i=2\/i=3\/i=4\/i=5:=by omega
   rcases this with rfl|rfl|rfl|rfl <;> omega
 . obtain⟨k,rfl⟩:∃ k,i=6+k:=⟨i-6,by omega⟩
   have:=(ht k (by omega)).1;omega
theorem kP(A B:List Int)(n:Int)(k:Nat)(h:0<=n)(h1:n<256 ^ k):Cl (A ++ (BT n k ++ B)) A.length k=n:=by
 unfold Cl;rw[List.drop_left,Dz (Bc n k),JP n k h];exact DQ h h1
theorem Ye(L:List Int)(i:Nat):∀ j,i<j->∃ B,GU L j=GU L i ++ (BT (num L i) (Ih i) ++ B):=by
 intro j;induction j with
 |zero=>intro h;omega
 |succ j ih=>
  intro h;by_cases e:i=j
  . subst e;exact⟨[],by rw[GU];simp⟩
  . obtain⟨B,hB⟩:=ih (by omega)
    exact⟨B ++ BT (num L j) (Ih j),by rw[GU,hB];simp⟩
theorem YN(L:List Int):(GU L 12).length=31:=EA L 12
theorem bT(c:List Int)(h:c.length<=252):(BK c).take 252=DH c:=by
 rw[BK,Dz (EK c h)]
theorem rR{L:List Int}(h:L.length=12)(M:List Int)(h':M.length=12)(e:∀ i,i<12->num L i=num M i):L=M:=by
 apply Bg (by rw[h,h']);intro i h1 h2;have:=e i (by omega)
 simpa [num,h1,h2] using this
theorem rn{L:List Int}(hL:L.length=12)(h:DP L=AE):QQ ((Gj L).take 252)=L:=by
 refine rR (Ht _) _ hL fun i hi=>?_
 rw[af _ _ hi,Gj,bT _ (by rw[YN];decide),DH];obtain⟨B,hB⟩:=Ye L i 12 hi;obtain⟨h0,h1⟩:=Tt h i hi;rw[hB,A7,A7,<- EA L i];exact kP _ _ _ _ h0 h1
theorem ox{L:List Int}(hL:L.length=12)(h:DP L=AE):qV (Gj L)/\tP (Gj L)=L:=by
 have e:=rn hL h;exact⟨⟨Jg _ (by rw[YN];decide),by rw[e];exact h,by rw[e]⟩,e⟩
theorem gy:∀ x∈Zv,0<=x/\x<=255:=by decide
theorem VA(p0 p1 p2 p3 p4 p5 p6 p7 p8 p9 q0 q1 q2 q3 q4 q5 q6 q7 q8 q9:Int)(w:Ai):
 (Op.equalIn 9999 42 (BN #[H E p0,H E p1,H E p2,H E p3,H E p4,H E p5,H E p6,H E p7,H E p8,H E p9]) (BN #[H E q0,H E q1,H E q2,H E q3,H E q4,H E q5,H E q6,H E q7,H E q8,H E q9])).run Ae w
   =.ok (decide ([p0,p1,p2,p3,p4,p5,p6,p7,p8,p9]=[q0,q1,q2,q3,q4,q5,q6,q7,q8,q9])) w:=by
 have u3:=Tryz.underlying3;have a3:=Tryz.isAgg3;have z3:=Tryz.sizeOf3;rw[show(9999:Nat)=9998+1 from rfl,Op.equalIn];simp only[Dg,B9 Tryz.underlying42,Result.andThen_ok];simp only[Std.Legacy.Range.forIn_eq_forIn_range',Std.Legacy.Range.size,Nat.sub_zero,Nat.add_sub_cancel,Nat.div_one,List.range'_succ,List.range'_zero,List.forIn_cons,List.forIn_nil]
 go_simp
 by_cases e0:p0=q0
 case neg=>(rw [Ax e0,AB e0];rfl)
 rw[Au e0,Az e0,AG];by_cases e1:p1=q1
 case neg=>(rw [Ax e1,AB e1];rfl)
 rw[Au e1,Az e1,AG];by_cases e2:p2=q2
 case neg=>(rw [Ax e2,AB e2];rfl)
 rw[Au e2,Az e2,AG];by_cases e3:p3=q3
 case neg=>(rw [Ax e3,AB e3];rfl)
 rw[Au e3,Az e3,AG];by_cases e4:p4=q4
 case neg=>(rw [Ax e4,AB e4];rfl)
 rw[Au e4,Az e4,AG];by_cases e5:p5=q5
 case neg=>(rw [Ax e5,AB e5];rfl)
 rw[Au e5,Az e5,AG];by_cases e6:p6=q6
 case neg=>(rw [Ax e6,AB e6];rfl)
 rw[Au e6,Az e6,AG];by_cases e7:p7=q7
 case neg=>(rw [Ax e7,AB e7];rfl)
 rw[Au e7,Az e7,AG];by_cases e8:p8=q8
 case neg=>(rw [Ax e8,AB e8];rfl)
 rw[Au e8,Az e8,AG];by_cases e9:p9=q9
 . rw[Au e9,Az e9]
 . rw[Ax e9,AB e9]
theorem jI(kp lp sp p0 p1 p2 p3 p4 p5 p6 p7 p8 p9 mp kq lq sq q0 q1 q2 q3 q4 q5 q6 q7 q8 q9 mq:Int)(w:Ai):
 (Op.equalIn 10000 44 (BN #[H E kp,H E lp,H E sp,H E p0,H E p1,H E p2,H E p3,H E p4,H E p5,H E p6,H E p7,H E p8,H E p9,H E mp]) (BN #[H E kq,H E lq,H E sq,H E q0,H E q1,H E q2,H E q3,H E q4,H E q5,H E q6,H E q7,H E q8,H E q9,H E mq])).run Ae w
   =.ok (decide ([kp,lp,sp,p0,p1,p2,p3,p4,p5,p6,p7,p8,p9,mp]=[kq,lq,sq,q0,q1,q2,q3,q4,q5,q6,q7,q8,q9,mq])) w:=by
 have hq:=VA p0 p1 p2 p3 p4 p5 p6 p7 p8 p9 q0 q1 q2 q3 q4 q5 q6 q7 q8 q9;have u3:=Tryz.underlying3;have a3:=Tryz.isAgg3;have z3:=Tryz.sizeOf3
 go_simp
 by_cases e:kp=kq
 case neg=>(rw [Ax e,AB e];rfl)
 rw[Au e,Az e];simp only[AG];clear e;by_cases e:lp=lq
 case neg=>(rw [Ax e,AB e];rfl)
 rw[Au e,Az e];simp only[AG];clear e;by_cases e:sp=sq
 case neg=>(rw [Ax e,AB e];rfl)
 rw[Au e,Az e];simp only[AG];clear e;by_cases e:p0=q0
 case neg=>(rw [AB e];rfl)
 rw[Az e];simp only[AG];clear e;by_cases e:p1=q1
 case neg=>(rw [AB e];rfl)
 rw[Az e];simp only[AG];clear e;by_cases e:p2=q2
 case neg=>(rw [AB e];rfl)
 rw[Az e];simp only[AG];clear e;by_cases e:p3=q3
 case neg=>(rw [AB e];rfl)
 rw[Az e];simp only[AG];clear e;by_cases e:p4=q4
 case neg=>(rw [AB e];rfl)
 rw[Az e];simp only[AG];clear e;by_cases e:p5=q5
 case neg=>(rw [AB e];rfl)
 rw[Az e];simp only[AG];clear e;by_cases e:p6=q6
 case neg=>(rw [AB e];rfl)
 rw[Az e];simp only[AG];clear e;by_cases e:p7=q7
 case neg=>(rw [AB e];rfl)
 rw[Az e];simp only[AG];clear e;by_cases e:p8=q8
 case neg=>(rw [AB e];rfl)
 rw[Az e];simp only[AG];clear e;by_cases e:p9=q9
 case neg=>(rw [AB e];rfl)
 rw[Az e];simp only[AG];clear e;by_cases e:mp=mq
 . rw[Au e,Az e];rfl
 . rw[Ax e,AB e];rfl
theorem tQ(L M:List Int)(hL:L.length=14)(hM:M.length=14)(w:Ai):(Op.equalIn 10000 44 (BN (iC L).toArray) (BN (iC M).toArray)).run Ae w=.ok (decide (L=M)) w:=by
 match L,hL,M,hM with
 |[kp,lp,sp,p0,p1,p2,p3,p4,p5,p6,p7,p8,p9,mp],_,[kq,lq,sq,q0,q1,q2,q3,q4,q5,q6,q7,q8,q9,mq],_=>exact jI kp lp sp p0 p1 p2 p3 p4 p5 p6 p7 p8 p9 mp kq lq sq q0 q1 q2 q3 q4 q5 q6 q7 q8 q9 mq w
theorem Uk{ops:Array BE}{rest:List BE}{o:BE}{a:Act}{w:Ai}{Q:Exit->Act->Ai->Prop}(Du:o.guard=R)(x y:Operand)(ho:o.op=.binOp .eql 44 x y 44)
 (L M:List Int) (hL:L.length=14) (hM:M.length=14) (hx:a.eval x=BN (iC L).toArray) (hy:a.eval y=BN (iC M).toArray)
 (h:Cf Ae ops Q rest (a.put o.dst (AP (decide (L=M)))) w):Cf Ae ops Q (o :: rest) a w:=by
 refine CA Du fun K hK=>?_
 have hg:Ae.eqGuardType Ae.depth 44=Ay:=by kernel_rfl
 unfold BE.wp execOp;simp only[ho,hx,hy,Dg,run_eqGuard_agg w _ _ _ _ _ _ hg,Result.andThen_ok,run_eql_struct,tQ L M hL hM];exact hK _ _ h
theorem fY(kp lp sp p0 p1 p2 p3 p4 p5 p6 p7 p8 p9 mp kq lq sq q0 q1 q2 q3 q4 q5 q6 q7 q8 q9 mq:Int)(w:Ai):
 (Op.equalIn 10000 159 (BN #[H E kp,H E lp,H E sp,H E p0,H E p1,H E p2,H E p3,H E p4,H E p5,H E p6,H E p7,H E p8,H E p9,H E mp]) (BN #[H E kq,H E lq,H E sq,H E q0,H E q1,H E q2,H E q3,H E q4,H E q5,H E q6,H E q7,H E q8,H E q9,H E mq])).run Ae w
   =.ok (decide ([kp,lp,sp,p0,p1,p2,p3,p4,p5,p6,p7,p8,p9,mp]=[kq,lq,sq,q0,q1,q2,q3,q4,q5,q6,q7,q8,q9,mq])) w:=by
 have hq:=VA p0 p1 p2 p3 p4 p5 p6 p7 p8 p9 q0 q1 q2 q3 q4 q5 q6 q7 q8 q9;have u3:=Tryz.underlying3;have a3:=Tryz.isAgg3;have z3:=Tryz.sizeOf3
 go_simp
 by_cases e:kp=kq
 case neg=>(rw [Ax e,AB e];rfl)
 rw[Au e,Az e];simp only[AG];clear e;by_cases e:lp=lq
 case neg=>(rw [Ax e,AB e];rfl)
 rw[Au e,Az e];simp only[AG];clear e;by_cases e:sp=sq
 case neg=>(rw [Ax e,AB e];rfl)
 rw[Au e,Az e];simp only[AG];clear e;by_cases e:p0=q0
 case neg=>(rw [AB e];rfl)
 rw[Az e];simp only[AG];clear e;by_cases e:p1=q1
 case neg=>(rw [AB e];rfl)
 rw[Az e];simp only[AG];clear e;by_cases e:p2=q2
 case neg=>(rw [AB e];rfl)
 rw[Az e];simp only[AG];clear e;by_cases e:p3=q3
 case neg=>(rw [AB e];rfl)
 rw[Az e];simp only[AG];clear e;by_cases e:p4=q4
 case neg=>(rw [AB e];rfl)
 rw[Az e];simp only[AG];clear e;by_cases e:p5=q5
 case neg=>(rw [AB e];rfl)
 rw[Az e];simp only[AG];clear e;by_cases e:p6=q6
 case neg=>(rw [AB e];rfl)
 rw[Az e];simp only[AG];clear e;by_cases e:p7=q7
 case neg=>(rw [AB e];rfl)
 rw[Az e];simp only[AG];clear e;by_cases e:p8=q8
 case neg=>(rw [AB e];rfl)
 rw[Az e];simp only[AG];clear e;by_cases e:p9=q9
 case neg=>(rw [AB e];rfl)
 rw[Az e];simp only[AG];clear e;by_cases e:mp=mq
 . rw[Au e,Az e];rfl
 . rw[Ax e,AB e];rfl
theorem rB(L M:List Int)(hL:L.length=14)(hM:M.length=14)(w:Ai):(Op.equalIn 10000 159 (BN (iC L).toArray) (BN (iC M).toArray)).run Ae w=.ok (decide (L=M)) w:=by
 match L,hL,M,hM with
 |[kp,lp,sp,p0,p1,p2,p3,p4,p5,p6,p7,p8,p9,mp],_,[kq,lq,sq,q0,q1,q2,q3,q4,q5,q6,q7,q8,q9,mq],_=>exact fY kp lp sp p0 p1 p2 p3 p4 p5 p6 p7 p8 p9 mp kq lq sq q0 q1 q2 q3 q4 q5 q6 q7 q8 q9 mq w
theorem Rg{ops:Array BE}{rest:List BE}{o:BE}{a:Act}{w:Ai}{Q:Exit->Act->Ai->Prop}(Du:o.guard=R)(x y:Operand)(ho:o.op=.binOp .eql 159 x y 159)
 (L M:List Int) (hL:L.length=14) (hM:M.length=14) (hx:a.eval x=BN (iC L).toArray) (hy:a.eval y=BN (iC M).toArray)
 (h:Cf Ae ops Q rest (a.put o.dst (AP (decide (L=M)))) w):Cf Ae ops Q (o :: rest) a w:=by
 refine CA Du fun K hK=>?_
 have hg:Ae.eqGuardType Ae.depth 159=Ay:=by kernel_rfl
 unfold BE.wp execOp;simp only[ho,hx,hy,Dg,run_eqGuard_agg w _ _ _ _ _ _ hg,Result.andThen_ok,run_eql_struct,rB L M hL hM];exact hK _ _ h
end
end Go.Proofs.YtfpdajplfmakhaaGreatDoor
