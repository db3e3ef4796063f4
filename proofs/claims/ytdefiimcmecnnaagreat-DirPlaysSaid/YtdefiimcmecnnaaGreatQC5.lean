/- What the law rests on. -/
import Derived.OrdersHeld
import Derived.Laws.StructEq
import Derived.Maps.Keyed
import Derived.WideKeyEntry
import Derived.ArgAppend
import Derived.ChangeMaps5
import Derived.Test.YtdefiimcmecnnaaGreatQC4
open Go.Value renaming int->Y,slice->E,pointer->Am,tuple->AO,bool->A1,agg->BD
open Go.IntKind renaming i64->H
open Go.Proofs.Tryz renaming prog->Ae
open Option renaming none->V,some->Ai
open Go.Ending renaming returned->Ag
open Go renaming World->Ah,Value->Aq,Calls->AA,Oper->BS,wpList->Cn
open Go.Obj renaming cells->Ar
open Go.RowKit renaming Below->At
open List renaming replicate->AD,nil_append->B0,length_cons->Ch,range->Co
open Bool renaming false->AI,true->I
open Or renaming inl->AN,inr->Ba
open Array renaming replicate->A3
open Int renaming toNat_natCast->B5
namespace Go.Proofs.YtdefiimcmecnnaaGreat
set_option maxHeartbeats 12000000
set_option linter.unusedVariables false
set_option maxRecDepth 100000
theorem BL:type_of% @of_decide_eq_false:=@of_decide_eq_false
theorem CB:type_of% @List.getElem?_set_self:=@List.getElem?_set_self
theorem C5:type_of% @Nat.mod_eq_of_lt:=@Nat.mod_eq_of_lt
theorem Vh:type_of% @Classical.byContradiction:=@Classical.byContradiction
section
open Go.RowKit
def Es(q:Int)(N:List Int)(D:List (List Int)):List (Nat × List Int):=(Co (D.length+1)).map fun i=>(3+i,(BU (Cw q N) :: D).getD i [])
def mJ(q:Int)(N:List Int)(D:List (List Int)):List (Nat × List (List Int)):=[(0,[]),(42,[z256]),(3,BU (Cw q N) :: D),(42,[BU (Ec q)])]
theorem Td(q:Int)(N:List Int)(D:List (List Int)):Gk (mJ q N D)=Du q (Es q N D):=by
 have e1:J8 3 (BU (Cw q N) :: D)=(Es q N D).map fun y=>.w y.1 y.2:=by
  unfold J8 Es;rw[List.map_map,Ch];rfl
 have e0:J8 0 []=[]:=rfl;have e2:J8 42 [z256]=[.w 42 z256]:=rfl;have e3:J8 42 [BU (Ec q)]=[.w 42 (BU (Ec q))]:=rfl;unfold mJ;rw[Ie,Ie,Ie,Ie,Ww,e0,e1,e2,e3];unfold Du;simp only[AQ,B0,List.cons_append,BB]
theorem TL{q:Int}{N:List Int}{D:List (List Int)}{x:Nat × List Int}(h:x∈Es q N D):∃ i,i<D.length+1/\x=(3+i,(BU (Cw q N) :: D).getD i []):=by
 obtain⟨i,hi,rfl⟩:=Cq.1 h;exact⟨i,Bo.1 hi,rfl⟩
theorem SK{q:Int}{N:List Int}{D F:List (List Int)}(hF:43<=F.length)(hD:D.length<=37)(i:Nat)(hi:i<D.length+1):(Cf (Es q N D) F).getD (3+i) []=(BU (Cw q N) :: D).getD i []:=by
 refine Jj _ F (3+i) _ (by omega) (fun x hx e=>?_) ⟨(3+i,(BU (Cw q N) :: D).getD i []),Cq.2 ⟨i,Bo.2 hi,rfl⟩,rfl⟩;obtain⟨k,hk,rfl⟩:=TL hx;have e':3+k=3+i:=e;obtain rfl:k=i:=by omega
 rfl
theorem aY{q:Int}{N:List Int}{D:List (List Int)}(hF:GA N D=I):qG q N D (Es q N D):=by
 obtain⟨Ki,hl,_⟩:=EX hF;refine⟨fun x hx=>?_,fun F aw=>⟨?_,fun j hj=>?_⟩⟩
 . obtain⟨k,hk,rfl⟩:=TL hx
   show 3<=3+k/\3+k<42
   omega
 . have:=SK (q:=q) (N:=N) aw (by omega:D.length<=37) 0 (by omega)
   exact this
 . have:=SK (q:=q) (N:=N) aw (by omega:D.length<=37) (1+j) (by omega)
   rw[show 3+(1+j)=4+j by omega] at this;rw[this,show 1+j=j+1 by omega];rfl
theorem Yr(W:Ah)(n:Nat)(hn:n<=1000000)(C:Int)(hC:C=n):(Instr.makeSlice 49 (Y H C) (Y H C)).run Ae W=.ok (E (Ai ⟨W.heap.size,0,V⟩) n n) (W.alloc (Ar (A3 n (Y .u8 0)) 5)):=by
 subst hC;obtain⟨i,h2,h3,h4,h5⟩:=By F7;have DY:=run_make (P:=Ae) W 49 5 i (Y .u8 0) Tryz.underlying49 h2 h3 H H n n (by omega) (by omega) (by rw[h5];omega) (by omega);simp only[B5,h4,Nat.mul_one,bL] at DY;exact DY
theorem iA(b off M cap K:Nat)(C:Int)(hC:C=K)(h1:K<=cap)(h2:0<cap)(W:Ah):(Instr.slice 63 (E (Ai ⟨b,off,V⟩) M cap) V (Ai (Y H C)) V).run Ae W=.ok (E (Ai ⟨b,off,V⟩) K cap) W:=by
 subst hC;obtain⟨i,g2,g3,g4,g5⟩:=By Sb;have ee:Ae.elem 63=49:=by kernel_rfl
 have hs:(sizeOf 49).run Ae W=.ok 1 W:=by simp[sizeOf,typeInfo,g2,g4]
 rw[run_slice_h W 63 _ M cap (by rw[ee];exact Tryz.underlying63) H (K:Int) (by omega) (by omega),ee,hs];have hne:cap≠0:=by omega
 simp[sliced,hne,Cb]
theorem Yq(b off M cap K:Nat)(C:Int)(hC:C=K)(h1:K+1=M)(h2:M<=cap)(W:Ah):(Instr.slice 63 (E (Ai ⟨b,off,V⟩) M cap) (Ai (Y H C)) V V).run Ae W=.ok (E (Ai ⟨b,off+K,V⟩) 1 (cap-K)) W:=by
 subst hC;obtain⟨i,g2,g3,g4,g5⟩:=By Sb;have ee:Ae.elem 63=49:=by kernel_rfl
 have hs:(sizeOf 49).run Ae W=.ok 1 W:=by simp[sizeOf,typeInfo,g2,g4]
 rw[run_slice_l W 63 _ M cap (by rw[ee];exact Tryz.underlying63) H (K:Int) (by omega) (by omega),ee,hs];have hne:cap≠K:=by omega
 have e1:M-K=1:=by omega
 simp[sliced,hne,Cb,e1]
theorem BBa.mid{w:Ah}{P:Nat->Prop}{b off cap:Nat}{L:List (List Int)}(h:BBa w P (E (Ai ⟨b,off,V⟩) L.length cap) L)(lo m:Nat)(hm:lo+m<=L.length)(M:List (List Int))(hM:(L.drop lo).take m=M):BBa w P (E (Ai ⟨b,off+lo,V⟩) m (cap-lo)) M:=by
 have hlen:((L.drop lo).take m).length=m:=by simp;omega
 rw[hM] at hlen;rcases h with⟨hv,_⟩| ⟨a',c',hv,Cm,hc⟩
 . simp at hv
 . obtain⟨rfl,rfl⟩:(⟨b,off,V⟩:Addr)=a'/\cap=c':=⟨Bz (A0 hv).1,(A0 hv).2.2⟩
   refine Ba ⟨⟨b,off+lo,V⟩,cap-lo,by rw[hlen],by omega,fun j hj=>?_⟩;rw[hlen] at hj;obtain⟨h1,h2,u,h3,h4,h5⟩:=hc (lo+j) (by omega);have e:M.getD j []=L.getD (lo+j) []:=by
    rw[<- hM];simp[hj]
   refine⟨h1,rfl,u,?_,by rw[e];exact h4,h5⟩;show w.cell? ⟨b,off+lo+j,V⟩=_
   rw[D6];exact h3
theorem QJ{w:Ah}{g:Nat}(hg:w.heap[g]? =Ai (Ar (A3 256 (Y .u8 0)) 5 (0,0))):BSl w (E (Ai ⟨g,0,V⟩) 256 256) z256:=by
 have hl:z256.length=256:=A4;refine⟨CW 256,Ba ⟨_,256,by rw[hl],by rw[hl];exact AB _,fun j hj=>⟨(Al.1 hg).1,rfl,?_⟩⟩⟩;rw[hl] at hj;show w.cell? ⟨g,0+j,V⟩=_
 rw[Bm,Az _ _ _ _ _ _ hg];have hn:∀ n,j<n->(A3 n (Y .u8 0))[j]? =Ai (Y .u8 ((AD n (0:Int)).getD j 0)):=fun n h=>by simp[h]
 exact hn 256 hj
theorem fO{W:Ah}{P:Nat->Prop}(hP:∀ k,P k->k<W.heap.size){q:Int}{N:List Int}{D:List (List Int)}{b off M cap K:Nat}(hb:BBa W P (E (Ai ⟨b,off,V⟩) M cap) (IN q N D))(hM:(IN q N D).length=M)(hK:D.length+1=K):
 At W.heap.size W (((W.alloc (Ar (A3 256 (Y .u8 0)) 5)).alloc (Ar #[E (Ai ⟨W.heap.size,0,V⟩) 256 256] 49)).alloc (Ar #[Y H 0,E V 0 0,Y H 42,E (Ai ⟨W.heap.size+1,0,V⟩) 1 1,Y H 3,E (Ai ⟨b,off,V⟩) K cap,Y H 42,E (Ai ⟨b,off+K,V⟩) 1 (cap-K)] 236))/\
 StSl (((W.alloc (Ar (A3 256 (Y .u8 0)) 5)).alloc (Ar #[E (Ai ⟨W.heap.size,0,V⟩) 256 256] 49)).alloc (Ar #[Y H 0,E V 0 0,Y H 42,E (Ai ⟨W.heap.size+1,0,V⟩) 1 1,Y H 3,E (Ai ⟨b,off,V⟩) K cap,Y H 42,E (Ai ⟨b,off+K,V⟩) 1 (cap-K)] 236)) P (W.heap.size+1+1) 0 (mJ q N D):=by
 subst hK;have b1:=Ay W (Ar (A3 256 (Y .u8 0)) 5);have n1:=Aw W (Ar (A3 256 (Y .u8 0)) 5);have s1:(W.alloc (Ar (A3 256 (Y .u8 0)) 5)).heap.size=W.heap.size+1:=by simp
 generalize W.alloc (Ar (A3 256 (Y .u8 0)) 5)=U1 at b1 n1 s1 |-
 have b2:=Ay U1 (Ar #[E (Ai ⟨W.heap.size,0,V⟩) 256 256] 49);have n2:=Aw U1 (Ar #[E (Ai ⟨W.heap.size,0,V⟩) 256 256] 49);have s2:(U1.alloc (Ar #[E (Ai ⟨W.heap.size,0,V⟩) 256 256] 49)).heap.size=W.heap.size+1+1:=by simp[s1]
 generalize U1.alloc (Ar #[E (Ai ⟨W.heap.size,0,V⟩) 256 256] 49)=U2 at b2 n2 s2 |-
 rw[s1] at n2;have b3:=Ay U2 (Ar #[Y H 0,E V 0 0,Y H 42,E (Ai ⟨W.heap.size+1,0,V⟩) 1 1,Y H 3,E (Ai ⟨b,off,V⟩) (D.length+1) cap,Y H 42,E (Ai ⟨b,off+(D.length+1),V⟩) 1 (cap-(D.length+1))] 236);have n3:=Aw U2 (Ar #[Y H 0,E V 0 0,Y H 42,E (Ai ⟨W.heap.size+1,0,V⟩) 1 1,Y H 3,E (Ai ⟨b,off,V⟩) (D.length+1) cap,Y H 42,E (Ai ⟨b,off+(D.length+1),V⟩) 1 (cap-(D.length+1))] 236);generalize U2.alloc (Ar #[Y H 0,E V 0 0,Y H 42,E (Ai ⟨W.heap.size+1,0,V⟩) 1 1,Y H 3,E (Ai ⟨b,off,V⟩) (D.length+1) cap,Y H 42,E (Ai ⟨b,off+(D.length+1),V⟩) 1 (cap-(D.length+1))] 236)=U3 at b3 n3 |-
 rw[s2] at n3;have b23:At U1.heap.size U1 U3:=b2.trans (b3.mono b2.size);have b13:At W.heap.size W U3:=b1.trans (b23.mono b1.size);have hc:Chg P P W U3:=Chg.of_below b13;have z1:=(b23.block _ (Al.1 n1).1).trans n1;have z2:=(b3.block _ (Al.1 n2).1).trans n2;have hPn:∀ k,W.heap.size<=k->¬ P k:=fun k hk hp=>by have:=hP k hp;omega
 have hl:(IN q N D).length=D.length+2:=NT q N D;rw[<- hM] at hb;have m1:=hb.mid 0 (D.length+1) (by omega) (BU (Cw q N) :: D) (by
  unfold IN;rw[CP];show List.take ((BU (Cw q N) :: D).length) ((BU (Cw q N) :: D) ++ [BU (Ec q)])=_
  rw[List.take_left])
 have m2:=hb.mid (D.length+1) 1 (by omega) [BU (Ec q)] (by
  unfold IN;show List.take 1 (List.drop ((BU (Cw q N) :: D).length) ((BU (Cw q N) :: D) ++ [BU (Ec q)]))=_
  rw[List.drop_left];rfl)
 rw[Nat.add_zero,Nat.sub_zero] at m1;refine⟨b13,(Al.1 n3).1,hPn _ (by omega),fun j hj=>?_⟩;have hj4:j<4:=hj;have cl:∀ i,U3.cell? ⟨W.heap.size+1+1,i,V⟩=(#[Y H 0,E V 0 0,Y H 42,E (Ai ⟨W.heap.size+1,0,V⟩) 1 1,Y H 3,E (Ai ⟨b,off,V⟩) (D.length+1) cap,Y H 42,E (Ai ⟨b,off+(D.length+1),V⟩) 1 (cap-(D.length+1))]:Array Aq)[i]? :=fun i=>Az _ _ _ _ _ _ n3
 obtain rfl|rfl|rfl|rfl:j=0\/j=1\/j=2\/j=3:=by omega
 . exact⟨V,0,cl _,cl _,BBa.nil _ _⟩
 . refine⟨_,_,cl _,cl _,Ba ⟨_,1,rfl,AB _,fun i hi=>?_⟩⟩
   obtain rfl:i=0:=by have:i<1:=hi;omega
   refine⟨⟨(Al.1 z2).1,hPn _ (Nat.le_succ _)⟩,rfl,E (Ai ⟨W.heap.size,0,V⟩) 256 256,?_,QJ z1,Apt.new (hPn _ (AB _))⟩;show U3.cell? ⟨W.heap.size+1,0,V⟩=_
   rw[Az _ _ _ _ _ _ z2];rfl
 . exact⟨_,_,cl _,cl _,m1.chg hc⟩
 . exact⟨_,_,cl _,cl _,m2.chg hc⟩
theorem StSl.drew{w:Ah}{P:Nat->Prop}{b off:Nat}{St:List (Nat × List (List Int))}(h:StSl w P b off St):StSl w.drew P b off St:=h.chg (Chg.of_below (A2 (AM _ _) 1))
theorem UG{B:Nat}{w w':Ah}(h:At B w w'):At B w w'.drew:=A2 h 1
section
variable {w:Ah}{P:Nat->Prop}{p:Aq}{s:DS}
theorem Yy(h:Dk w P p s){v:Aq}{q:Int}{N:List Int}{D:List (List Int)}(hv:TxV w v q N D)(q0:0<=q)(q1:q<4294967296)(hB:Gp s.F.length N D=I)(hU:s.U.length<=900000):
 AA Ae 115 #[p,v] w (RunQ (Du q (Es q N D)) w P p s):=by
 have hv':=hv;obtain⟨no,nc,ao,dc,rfl,hN,hD⟩:=hv;have hB':=hB;unfold Gp at hB';rw[AY,AY,Bd] at hB';obtain⟨Qa,hF,hH⟩:=hB';obtain⟨f1,f2,f3⟩:=EX hF;have KT:=vJ (fun W (hb:At w.heap.size w W)=>Ts (h.below hb) (hv'.below hb) I hB);have KP:=vJ (fun W (hb:At w.heap.size w W)=>g8 (hv'.below hb) hF q0 q1);obtain⟨M,hM⟩:=nm ((IN q N D).length);obtain⟨K,hK⟩:=nm (D.length+1);have hMK:K+1=M:=by rw[hM,NT,hK]
 have hM40:M<=40:=by omega
 have KL:Hid (∀ W g U3,At w.heap.size w W->(W.heap.size+1+1=g)->(StSl U3 P g 0 (mJ q N D))->At W.heap.size W U3->AA Ae 167 #[p,E (Ai ⟨g,0,V⟩) 4 4] U3 (fun e w'=>e=Ag (Y H (BP (Du q (Es q N D)) s).1)/\∃ P',Dk w' P' p (BP (Du q (Es q N D)) s).2/\Chg P P' w w')):=vJ (fun W g U3 hb _ hs hb2=>by
  have:=mY (cap:=4) (h.below (hb.trans (hb2.mono hb.size))) hs hU (by
   unfold qd;rw[Td];unfold Du;simp[Es];omega) (by show 4<=1000;omega) (fun j hj i hi=>by
   have hj4:j<4:=hj;obtain rfl|rfl|rfl|rfl:j=0\/j=1\/j=2\/j=3:=by omega
   . exact absurd hi (A8 _)
   . obtain rfl:i=0:=by have:i<1:=hi;omega
     exact⟨by show 42+0<_;omega,by show z256.length=256;exact A4⟩
   . have hi':i<D.length+1:=hi
     refine⟨by show 3+i<_;omega,?_⟩;show((BU (Cw q N) :: D).getD i []).length=256
     cases i with
     |zero=>exact Dt _ (by rw[Gu];omega)
     |succ i=>exact(f3 i (by omega)).2.1
   . obtain rfl:i=0:=by have:i<1:=hi;omega
     exact⟨by show 42+0<_;omega,by show(BU (Ec q)).length=256;exact Dt _ (by rw[Lq];omega)⟩) (fun j hj=>by
   have hj4:j<4:=hj;obtain rfl|rfl|rfl|rfl:j=0\/j=1\/j=2\/j=3:=by omega
   . exact⟨by show 0<=1000;omega,by show 0<=1000;omega⟩
   . exact⟨by show 42<=1000;omega,by show 1<=1000;omega⟩
   . exact⟨by show 3<=1000;omega,by show D.length+1<=1000;omega⟩
   . exact⟨by show 42<=1000;omega,by show 1<=1000;omega⟩)
  rw[Td] at this;refine this.mono ?_;rintro e w' ⟨he,P',hd,hc⟩;exact⟨he,P',hd,(Chg.of_below (hb.trans (hb2.mono hb.size))).trans hc⟩)
 have hlt:=fun k hk=>h.lt k hk
 have HAP:=vJ (fun W (hb:At w.heap.size w W) u (hu:BB2 W W.heap.size 0 u (IN q N D))=>hu.zero.apart (h.below hb));have HAP2:=vJ (fun W (hb:At w.heap.size w W) B u (hu:BB2 W B 0 u (IN q N D))=>hu.zero.apart (h.below hb));have HSM:=vJ (fun W (hb:At w.heap.size w W) b off cap (hu:BBa W P (E (Ai ⟨b,off,V⟩) M cap) (IN q N D))=>fO (W:=W) (P:=P) (fun k hk=>AH (hlt k hk) hb.size) hu hM.symm hK.symm);have HSH:=vJ (fun W u (hu:BBSl W u (IN q N D))=>hu.open');rw[<- hM] at HSH;obtain⟨bp,rfl⟩:=h.ptr;unfold RunQ;obtain⟨A,hA⟩:=nm (Du q (Es q N D));rw[<- hA] at KL |-
 obtain⟨rr,hrr⟩:=nm ((BP A s).1);obtain⟨rs,oE⟩:=nm ((BP A s).2);rw[<- hrr,<- oE] at KL |-
 generalize N.length=n at KT KP |-
 generalize D.length=m at KT KP |-
 have hbx:=Ay w (Ar #[Y .u32 q,E no n nc,E ao m dc] 180);have E5:=Aw w (Ar #[Y .u32 q,E no n nc,E ao m dc] 180);have hMc:((K:Nat):Int)=(M:Int)-1:=by omega
 have HMK:=vJ hMK;have HM40:=vJ hM40;have HMC:=vJ hMc;clear h hN hD hv' hB hF hH f1 f2 f3 Qa hlt hU q0 q1 hM hK hA hrr oE hMK hMc;go_enter Tryz.func115,Tryz.ntmps115;go_upto_region 1 with(fail)
 generalize w.alloc (Ar #[Y .u32 q,E no n nc,E ao m dc] 180)=u at hbx E5 |-
 have KT1:=vJ (KT.out _ hbx);have d0:u.cell? ⟨w.heap.size,0,V⟩=Ai (Y .u32 q):=by rw[Az _ _ _ _ _ _ E5];rfl
 have d1:u.cell? ⟨w.heap.size,1,V⟩=Ai (E no n nc):=by rw[Az _ _ _ _ _ _ E5];rfl
 have d2:u.cell? ⟨w.heap.size,2,V⟩=Ai (E ao m dc):=by rw[Az _ _ _ _ _ _ E5];rfl
 have PI:w.heap.size<u.heap.size:=(Al.1 E5).1;obtain⟨d,hd⟩:=nm w.heap.size;have HBX:=vJ hbx;have HM0:Hid (0<M):=vJ (by have:=HMK.out;omega);rw[<- hd] at d0 d1 d2 PI |-
 have e1:1<=M:=HM0.out;clear E5 KT hbx hd
 go_wp2_with (first
  |(go_at_call 148;(with_reducible refine KT1.out.mono ?_);rintro e w2 ⟨rfl,hb2⟩
    have HB2:=vJ (HBX.out.trans (hb2.mono HBX.out.size));have g0:=(hb2.cell (p:=⟨d,0,V⟩) PI).trans d0;have g1:=(hb2.cell (p:=⟨d,1,V⟩) PI).trans d1;have g2:=(hb2.cell (p:=⟨d,2,V⟩) PI).trans d2;clear hb2 d0 d1 d2)
  |(go_at_call 166;(with_reducible refine(KP.out _ HB2.out).mono ?_);rintro e w3 ⟨u3,rfl,hu3,hb3⟩
    have HB3:=vJ (HB2.out.trans (hb3.mono HB2.out.size));have HA3:=vJ (HAP2.out _ HB3.out _ _ hu3);obtain⟨bo,cap,rfl,Cm,Qu⟩:=HSH.out _ _ hu3.zero.sl;obtain⟨b,off,rfl,_,_⟩:=Qu HM0.out;have HCAP:=vJ Cm;clear hu3 hb3 Qu Cm g0 g1 g2))
 have hwr:H.wrap ((M:Int)-1)=(M:Int)-1:=A9 _ (by have:=HM40.out;have:=HM0.out;omega);obtain⟨Z,hZ⟩:=nm (A3 256 (Y .u8 0));have sF:=fun W=>Yr W 256 (by decide) 256 rfl
 have hs1:=fun W=>iA b off M cap K ((M:Int)-1) HMC.out.symm (by have:=HCAP.out;have:=HMK.out;omega) (by have:=HCAP.out;have:=HM0.out;omega) W
 have hs2:=fun W=>Yq b off M cap K ((M:Int)-1) HMC.out.symm HMK.out HCAP.out W
 obtain⟨h1,h2⟩:=HSM.out _ HB3.out _ _ _ HA3.out;have KL1:=vJ (KL.out _ _ _ HB3.out rfl h2.drew (UG h1));rw[<- hZ] at sF KL1;clear h1 h2 hZ HA3;go_region_held3 (fun W=>True) (trivial) (first|(go_at_call 167;(with_reducible refine KL1.out.mono ?_);rintro e w5 ⟨rfl,hx5⟩))
 go_wp2;go_ret;exact⟨rfl,hx5⟩
end
def RecQ(A:List PA)(hd:Prop)(w:Ah)(P:Nat->Prop)(p:Aq)(s:DS)(e:Ending)(w':Ah):Prop:=
 ∃ x,e=Ag (AO #[Y .u32 x,Y H (BP A s).1])/\(∃ P',Dk w' P' p (BP A s).2/\Chg P P' w w')/\(hd->(BP A s).1=0->x=1)/\(0<=x/\x<4294967296)
theorem u32_in(x:Int):0<=IntKind.u32.wrap x/\IntKind.u32.wrap x<4294967296:=by
 have:IntKind.u32.wrap x=x%4294967296:=by simp[IntKind.wrap,IntKind.signed,IntKind.bits]
 omega
theorem FR(A:List PA)(s:DS):(BP A s).1=0\/(BP A s).1=2:=by
 obtain⟨_,_,_,h⟩:=IB A s;exact h.imp (fun x=>x.1) id
theorem RecQ.early{A:List PA}{hd:Prop}{w W:Ah}{P P':Nat->Prop}{p:Aq}{s:DS}(h:(BP A s).1=2)(hk:Dk W P' p (BP A s).2)(hc:Chg P P' w W):RecQ (A ++ [.f]) hd w P p s (Ag (AO #[Y .u32 0,Y H 2])) W:=by
 have e:BP (A ++ [.f]) s=BP A s:=by rw[EQ,AE (by rw[h];decide)]
 unfold RecQ;rw[e,h];exact⟨0,rfl,⟨P',hk,hc⟩,fun _ h=>absurd h (by decide),by decide,by decide⟩
theorem RecQ.stop{A:List PA}{hd:Prop}{w W:Ah}{P P':Nat->Prop}{p:Aq}{s:DS}(h:(BP A s).1=0)(hok:(BP A s).2.ok=AI)(hk:Dk W P' p (BP A s).2.pay)(hc:Chg P P' w W):RecQ (A ++ [.f]) hd w P p s (Ag (AO #[Y .u32 0,Y H 2])) W:=by
 unfold RecQ;rw[SM h hok];exact⟨0,rfl,⟨P',hk,hc⟩,fun _ h=>absurd (show(2:Int)=0 from h) (by decide),by decide,by decide⟩
theorem RecQ.done{A:List PA}{hd:Prop}{w W:Ah}{P P':Nat->Prop}{p:Aq}{s:DS}{x:Int}(h:(BP A s).1=0)(hok:(BP A s).2.ok=I)(hk:Dk W P' p (BP A s).2.flush)(hc:Chg P P' w W)(hx:hd->x=1)(Qb:0<=x/\x<4294967296):RecQ (A ++ [.f]) hd w P p s (Ag (AO #[Y .u32 x,Y H 0])) W:=by
 unfold RecQ;rw[GK h hok];exact⟨x,rfl,⟨P',hk,hc⟩,fun h _=>hx h,Qb⟩
section
variable {w:Ah}{P:Nat->Prop}{p:Aq}{s:DS}
theorem Tz{W:Ah}{v:Aq}{J:List (List Int)}(hv:BBSl W v J)(hJ:0<J.length):
 AA Ae 105 #[v] W fun e w'=>∃ y z,e=Ag (AO #[Y .u32 y,A1 z])/\At W.heap.size W w'/\((∀ q N,¬ DD (J.getD 0 []) q N)->y=0):=
 (jp hv).mono fun e w' ⟨hb,hc⟩=>by
   rcases hc with⟨q,N,h0,hh,he⟩| ⟨_,he⟩
   . exact⟨q,I,he,hb,fun h=>absurd hh (h q N)⟩
   . exact⟨0,AI,he,hb,fun _=>rfl⟩
theorem Ul(h:Dk w P p s)(Qa:64<=s.F.length)(hd:s.dn=AI)(hU:s.U.length<=900000){q:Int}{N:List Int}{D:List (List Int)}(ht:QU s.F.length (EK s.vis) q N D):
 AA Ae 65 #[p] w (RecQ (B9 N D ++ [.f]) (∀ q N,¬ DD ((EK s.vis).getD 0 []) q N) w P p s):=by
 have MY:(EK s.vis).length=40:=EP (by rw[DS.vis_length];omega);obtain⟨hF,q0,q1⟩:=O5 ht.1;have hlen:=FL (B9 N D) s;rw[FA] at hlen;have Ki:=(EX hF).1;have KJ:=vJ (Xf h Qa hd);have KS:=vJ (fun W (hb:At w.heap.size w W) v (hv:BBSl W v (EK s.vis))=>WT (h.below hb) hv (by omega) ht);have HTV:=vJ (fun W (hb:At w.heap.size w W) vN vD (hN:IR W 0 vN N) (hD:BBR W 0 vD D)=>TxVa.own (h.below hb) (q:=q) hN hD);have KH:=vJ (fun W (hb:At w.heap.size w W) v (hv:TxVa W P v q N D)=>TO (h.below hb) hv (by
  unfold Gp;rw[AF Qa,hF,ht.2];rfl) hU)
 have KF:=vJ (fun W Pk (hk:Dk W Pk p (BP (B9 N D) s).2)=>Ug hk (by omega));have KQ:=vJ (fun W v (hv:BBSl W v (EK s.vis))=>Tz hv (by omega));obtain⟨bp,rfl⟩:=h.ptr;obtain⟨J,hJ⟩:=nm (EK s.vis);rw[<- hJ] at KJ KS KQ |-
 obtain⟨HD,rx⟩:=nm ((∀ q N,¬ DD (J.getD 0 []) q N));rw[<- rx];have HHD:Hid (HD->(∀ q N,¬ DD (J.getD 0 []) q N)):=vJ (fun h=>by rw[rx] at h;exact h);obtain⟨A,hA⟩:=nm (B9 N D);rw[<- hA] at KF KH |-
 unfold RunQ at KH;clear h Qa hd hU ht MY hF q0 q1 hlen Ki rx hA hJ;rcases FR A s with hr|hr
 . rw[hr] at KH
   have HR:=vJ hr;clear hr;cases hok:(BP A s).2.ok
   . rw[hok,AE CH,AE CH] at KF
     have HOK:=vJ hok;clear hok;go_enter Tryz.func65,Tryz.ntmps65
     go_wp2_with (first
      |(go_at_call 101;(with_reducible refine KJ.out.mono ?_);rintro e w1 ⟨ao,cap,rfl,cJ,hb1⟩
        have HB1:=vJ hb1;have HV1:=vJ cJ;clear hb1 cJ)
      |(go_at_call 102;(with_reducible refine(KS.out _ HB1.out _ HV1.out.sl).mono ?_);rintro e w3 ⟨vN,vD,rfl,hN3,hD3,hb3⟩
        obtain⟨_,no,nc,rfl,_⟩:=hN3.isc;obtain⟨co,dc,rfl,_⟩:=hD3.sl.shape;have Kj:=Aw w3 (Ar #[Y .u32 0,E V 0 0,E V 0 0] 180);have hbs:=Ay w3 (Ar #[Y .u32 0,E V 0 0,E V 0 0] 180);have HN3:=vJ (hN3.below hbs);have HD3:=vJ (hD3.below hbs);have HB3:=vJ hb3;generalize hnn:N.length=n at HN3 |-
        generalize hmm:D.length=m at HD3 |-
        clear hN3 hD3 hnn hmm hb3)
      |(with_reducible refine BQ rfl 180 EN (.tmp 6) (.tmp 24) rfl w3.heap.size rfl _ _ _ _ _ _ rfl rfl rfl rfl _ Kj ?_;intro w4 hw4 hr4
        have hb4:=hbs.trans (hw4.below (AB _));have HB14:=vJ (HB3.out.trans (hb4.mono HB3.out.size));have HB4:=vJ (HB1.out.trans (HB14.out.mono HB1.out.size));have x0:w4.cell? ⟨w3.heap.size,0,V⟩=Ai (Y .u32 q):=(by rw[Az _ _ _ _ _ _ hr4];rfl);have x1:w4.cell? ⟨w3.heap.size,1,V⟩=Ai (E no n nc):=(by rw[Az _ _ _ _ _ _ hr4];rfl);have x2:w4.cell? ⟨w3.heap.size,2,V⟩=Ai (E co m dc):=(by rw[Az _ _ _ _ _ _ hr4];rfl);have HTX:=vJ (HTV.out _ HB4.out _ _ (HN3.out.wrote hw4 Kj (by decide)) (HD3.out.wrote hw4 (AX _) Kj (by decide) (by decide)));clear Kj hbs hw4 hb4 HN3 HD3 hr4)
      |(go_at_call 103;(with_reducible refine(KH.out _ HB4.out _ HTX.out).mono ?_);rintro e w5 ⟨rfl,P5,cI,TX⟩
        have HC5:=vJ ((Chg.of_below (P:=P) HB14.out).trans TX);have HC05:=vJ ((Chg.of_below (P:=P) HB1.out).trans HC5.out);have KF1:=vJ (KF.out _ _ cI);clear x0 x1 x2 TX)
      |(go_at_call 104;(with_reducible refine KF1.out.mono ?_);rintro e w7 ⟨rfl,P7,hd7,oO⟩))
     go_ret2;exact RecQ.stop HR.out HOK.out hd7 (HC05.out.trans oO)
   . rw[hok,AC rfl,AC rfl] at KF
     have HOK:=vJ hok;clear hok;go_enter Tryz.func65,Tryz.ntmps65
     go_wp2_with (first
      |(go_at_call 101;(with_reducible refine KJ.out.mono ?_);rintro e w1 ⟨ao,cap,rfl,cJ,hb1⟩
        have HB1:=vJ hb1;have HV1:=vJ cJ;clear hb1 cJ)
      |(go_at_call 102;(with_reducible refine(KS.out _ HB1.out _ HV1.out.sl).mono ?_);rintro e w3 ⟨vN,vD,rfl,hN3,hD3,hb3⟩
        obtain⟨_,no,nc,rfl,_⟩:=hN3.isc;obtain⟨co,dc,rfl,_⟩:=hD3.sl.shape;have Kj:=Aw w3 (Ar #[Y .u32 0,E V 0 0,E V 0 0] 180);have hbs:=Ay w3 (Ar #[Y .u32 0,E V 0 0,E V 0 0] 180);have HN3:=vJ (hN3.below hbs);have HD3:=vJ (hD3.below hbs);have HB3:=vJ hb3;generalize hnn:N.length=n at HN3 |-
        generalize hmm:D.length=m at HD3 |-
        clear hN3 hD3 hnn hmm hb3)
      |(with_reducible refine BQ rfl 180 EN (.tmp 6) (.tmp 24) rfl w3.heap.size rfl _ _ _ _ _ _ rfl rfl rfl rfl _ Kj ?_;intro w4 hw4 hr4
        have hb4:=hbs.trans (hw4.below (AB _));have HB14:=vJ (HB3.out.trans (hb4.mono HB3.out.size));have HB4:=vJ (HB1.out.trans (HB14.out.mono HB1.out.size));have x0:w4.cell? ⟨w3.heap.size,0,V⟩=Ai (Y .u32 q):=(by rw[Az _ _ _ _ _ _ hr4];rfl);have x1:w4.cell? ⟨w3.heap.size,1,V⟩=Ai (E no n nc):=(by rw[Az _ _ _ _ _ _ hr4];rfl);have x2:w4.cell? ⟨w3.heap.size,2,V⟩=Ai (E co m dc):=(by rw[Az _ _ _ _ _ _ hr4];rfl);have HTX:=vJ (HTV.out _ HB4.out _ _ (HN3.out.wrote hw4 Kj (by decide)) (HD3.out.wrote hw4 (AX _) Kj (by decide) (by decide)));clear Kj hbs hw4 hb4 HN3 HD3 hr4)
      |(go_at_call 103;(with_reducible refine(KH.out _ HB4.out _ HTX.out).mono ?_);rintro e w5 ⟨rfl,P5,cI,TX⟩
        have HC5:=vJ ((Chg.of_below (P:=P) HB14.out).trans TX);have HC05:=vJ ((Chg.of_below (P:=P) HB1.out).trans HC5.out);have KF1:=vJ (KF.out _ _ cI);clear x0 x1 x2 TX)
      |(go_at_call 104;(with_reducible refine KF1.out.mono ?_);rintro e w7 ⟨rfl,P7,hd7,oO⟩)
      |(go_at_call 105;(with_reducible refine(KQ.out _ _ (HV1.out.chg (HC5.out.trans oO)).sl).mono ?_);rintro e w8 ⟨y,z,rfl,hb8,hy⟩))
     go_ret2;exact RecQ.done HR.out HOK.out (hd7.below hb8) ((HC05.out.trans oO).trans (Chg.of_below hb8)) (fun h=>by rw[hy (HHD.out h)];rfl) (u32_in (y+1))
 . rw[hr] at KH
   have HR:=vJ hr;clear hr;go_enter Tryz.func65,Tryz.ntmps65
   go_wp2_with (first
    |(go_at_call 101;(with_reducible refine KJ.out.mono ?_);rintro e w1 ⟨ao,cap,rfl,cJ,hb1⟩
      have HB1:=vJ hb1;have HV1:=vJ cJ;clear hb1 cJ)
    |(go_at_call 102;(with_reducible refine(KS.out _ HB1.out _ HV1.out.sl).mono ?_);rintro e w3 ⟨vN,vD,rfl,hN3,hD3,hb3⟩
      obtain⟨_,no,nc,rfl,_⟩:=hN3.isc;obtain⟨co,dc,rfl,_⟩:=hD3.sl.shape;have Kj:=Aw w3 (Ar #[Y .u32 0,E V 0 0,E V 0 0] 180);have hbs:=Ay w3 (Ar #[Y .u32 0,E V 0 0,E V 0 0] 180);have HN3:=vJ (hN3.below hbs);have HD3:=vJ (hD3.below hbs);have HB3:=vJ hb3;generalize hnn:N.length=n at HN3 |-
      generalize hmm:D.length=m at HD3 |-
      clear hN3 hD3 hnn hmm hb3)
    |(with_reducible refine BQ rfl 180 EN (.tmp 6) (.tmp 24) rfl w3.heap.size rfl _ _ _ _ _ _ rfl rfl rfl rfl _ Kj ?_;intro w4 hw4 hr4
      have hb4:=hbs.trans (hw4.below (AB _));have HB14:=vJ (HB3.out.trans (hb4.mono HB3.out.size));have HB4:=vJ (HB1.out.trans (HB14.out.mono HB1.out.size));have x0:w4.cell? ⟨w3.heap.size,0,V⟩=Ai (Y .u32 q):=(by rw[Az _ _ _ _ _ _ hr4];rfl);have x1:w4.cell? ⟨w3.heap.size,1,V⟩=Ai (E no n nc):=(by rw[Az _ _ _ _ _ _ hr4];rfl);have x2:w4.cell? ⟨w3.heap.size,2,V⟩=Ai (E co m dc):=(by rw[Az _ _ _ _ _ _ hr4];rfl);have HTX:=vJ (HTV.out _ HB4.out _ _ (HN3.out.wrote hw4 Kj (by decide)) (HD3.out.wrote hw4 (AX _) Kj (by decide) (by decide)));clear Kj hbs hw4 hb4 HN3 HD3 hr4)
    |(go_at_call 103;(with_reducible refine(KH.out _ HB4.out _ HTX.out).mono ?_);rintro e w5 ⟨rfl,P5,cI,TX⟩
      have HC5:=vJ ((Chg.of_below (P:=P) HB14.out).trans TX);have HC05:=vJ ((Chg.of_below (P:=P) HB1.out).trans HC5.out);have KF1:=vJ (KF.out _ _ cI);clear x0 x1 x2 TX))
   go_ret2;exact RecQ.early HR.out cI HC05.out
theorem Xd(h:Dk w P p s)(Qa:64<=s.F.length)(hd:s.dn=AI)(hU:s.U.length<=900000)(C6:∀ q N D,¬ QU s.F.length (EK s.vis) q N D):
 AA Ae 65 #[p] w (RecQ ([] ++ [.f]) (∀ q N,¬ DD ((EK s.vis).getD 0 []) q N) w P p s):=by
 have MY:(EK s.vis).length=40:=EP (by rw[DS.vis_length];omega);have KJ:=vJ (Xf h Qa hd);have KS:=vJ (fun W (hb:At w.heap.size w W) v (hv:BBSl W v (EK s.vis))=>X5 (h.below hb) hv (by omega) C6);have KF:=vJ (fun W (hb:At w.heap.size w W)=>Ug (h.below hb) (by omega));have KQ:=vJ (fun W v (hv:BBSl W v (EK s.vis))=>Tz hv (by omega));obtain⟨bp,rfl⟩:=h.ptr;obtain⟨J,hJ⟩:=nm (EK s.vis);rw[<- hJ] at KJ KS KQ |-
 obtain⟨HD,rx⟩:=nm ((∀ q N,¬ DD (J.getD 0 []) q N));rw[<- rx];have HHD:Hid (HD->(∀ q N,¬ DD (J.getD 0 []) q N)):=vJ (fun h=>by rw[rx] at h;exact h);have HR:Hid ((BP [] s).1=0):=vJ rfl;clear h Qa hd hU C6 MY rx hJ;cases hok:s.ok
 . rw[hok,AE CH,AE CH] at KF
   have HOK:Hid ((BP [] s).2.ok=AI):=vJ hok;clear hok;go_enter Tryz.func65,Tryz.ntmps65
   go_wp2_with (first
    |(go_at_call 101;(with_reducible refine KJ.out.mono ?_);rintro e w1 ⟨ao,cap,rfl,cJ,hb1⟩
      have HB1:=vJ hb1;have HV1:=vJ cJ;clear hb1 cJ)
    |(go_at_call 102;(with_reducible refine(KS.out _ HB1.out _ HV1.out.sl).mono ?_);rintro e w3 ⟨rfl,hb3⟩
      have Kj:=Aw w3 (Ar #[Y .u32 0,E V 0 0,E V 0 0] 180);have hbs:=Ay w3 (Ar #[Y .u32 0,E V 0 0,E V 0 0] 180);have HB3:=vJ hb3;clear hb3)
    |(with_reducible refine BQ rfl 180 EN (.tmp 6) (.tmp 24) rfl w3.heap.size rfl _ _ _ _ _ _ rfl rfl rfl rfl _ Kj ?_;intro w4 hw4 hr4
      have hb4:=hbs.trans (hw4.below (AB _));have HB14:=vJ (HB3.out.trans (hb4.mono HB3.out.size));have HB4:=vJ (HB1.out.trans (HB14.out.mono HB1.out.size));have HC5:=vJ (Chg.of_below (P:=P) HB14.out);have HC05:=vJ (Chg.of_below (P:=P) HB4.out);have KF1:=vJ (KF.out _ HB4.out);clear Kj hbs hw4 hb4 hr4)
    |(go_at_call 104;(with_reducible refine KF1.out.mono ?_);rintro e w7 ⟨rfl,P7,hd7,oO⟩))
   go_ret2;exact RecQ.stop HR.out HOK.out hd7 (HC05.out.trans oO)
 . rw[hok,AC rfl,AC rfl] at KF
   have HOK:Hid ((BP [] s).2.ok=I):=vJ hok;clear hok;go_enter Tryz.func65,Tryz.ntmps65
   go_wp2_with (first
    |(go_at_call 101;(with_reducible refine KJ.out.mono ?_);rintro e w1 ⟨ao,cap,rfl,cJ,hb1⟩
      have HB1:=vJ hb1;have HV1:=vJ cJ;clear hb1 cJ)
    |(go_at_call 102;(with_reducible refine(KS.out _ HB1.out _ HV1.out.sl).mono ?_);rintro e w3 ⟨rfl,hb3⟩
      have Kj:=Aw w3 (Ar #[Y .u32 0,E V 0 0,E V 0 0] 180);have hbs:=Ay w3 (Ar #[Y .u32 0,E V 0 0,E V 0 0] 180);have HB3:=vJ hb3;clear hb3)
    |(with_reducible refine BQ rfl 180 EN (.tmp 6) (.tmp 24) rfl w3.heap.size rfl _ _ _ _ _ _ rfl rfl rfl rfl _ Kj ?_;intro w4 hw4 hr4
      have hb4:=hbs.trans (hw4.below (AB _));have HB14:=vJ (HB3.out.trans (hb4.mono HB3.out.size));have HB4:=vJ (HB1.out.trans (HB14.out.mono HB1.out.size));have HC5:=vJ (Chg.of_below (P:=P) HB14.out);have HC05:=vJ (Chg.of_below (P:=P) HB4.out);have KF1:=vJ (KF.out _ HB4.out);clear Kj hbs hw4 hb4 hr4)
    |(go_at_call 104;(with_reducible refine KF1.out.mono ?_);rintro e w7 ⟨rfl,P7,hd7,oO⟩)
    |(go_at_call 105;(with_reducible refine(KQ.out _ _ (HV1.out.chg (HC5.out.trans oO)).sl).mono ?_);rintro e w8 ⟨y,z,rfl,hb8,hy⟩))
   go_ret2;exact RecQ.done HR.out HOK.out (hd7.below hb8) ((HC05.out.trans oO).trans (Chg.of_below hb8)) (fun h=>by rw[hy (HHD.out h)];rfl) (u32_in (y+1))
end
def np(N:List Int):Bool:=(Co N.length).any fun k=>decide (3<=N.getD k 0) && decide (N.getD k 0<43)
theorem bQ(N:List Int):np N=AI ↔ ∀ k,k<N.length->¬ (3<=N.getD k 0/\N.getD k 0<43):=by
 unfold np;rw[List.any_eq_false];constructor
 . intro h k hk hc
   exact h k (Bo.2 hk) (by rw[AY,Bd,Bd];exact hc)
 . intro h k hk
   have:=h k (Bo.1 hk);simp only[AY,Bd];exact this
theorem BBR.row{w:Ah}{B g n cap:Nat}{L:List (List Int)}(h:BBR w B (E (Ai ⟨g,0,V⟩) n cap) L):∃ cur:Array Aq,w.heap[g]? =Ai (Ar cur 49 (0,0))/\L.length<=cur.size/\B<=g:=by
 obtain⟨vs,hl,hr,ho⟩:=h;rcases ho.2 with⟨hv,_⟩| ⟨g',cap',cur,hv,hg,hh,Hn,LD,Hb,ht⟩
 . simp at hv
 . obtain rfl:g=g':=by have:=Bz (A0 hv).1;injection this
   exact⟨cur,hh,by omega,hg⟩
theorem BBR.set{w:Ah}{B g n cap:Nat}{L:List (List Int)}(h:BBR w B (E (Ai ⟨g,0,V⟩) n cap) L){x:Nat}(hx:x<L.length){y:Aq}{l:List Int}(hy:BElt w B y l):BBR (w.setCell ⟨g,x,V⟩ y) B (E (Ai ⟨g,0,V⟩) n cap) (L.set x l):=by
 obtain⟨vs,hl,hr,ho⟩:=h;rcases ho.2 with⟨hv,_⟩| ⟨g',cap',cur,hv,hg,hh,Hn,LD,Hb,ht⟩
 . simp at hv
 . obtain rfl:g=g':=by have:=Bz (A0 hv).1;injection this
   have hw:=Wrote.setCell w g x y;have hgr:w.grownBy (w.setCell ⟨g,x,V⟩ y) (Ai g):=
    ⟨hw.1,hw.2.1,hw.2.2.1,by rw[hw.2.2.2.1];exact AB _,fun b hb hne=>hw.2.2.2.2 b (fun e=>hne (by rw[e]))⟩
   have hrow:∀ g',Ai g=Ai g'->B<=g'/\∃ cur,w.heap[g']? =Ai (Ar cur 49 (0,0)):=fun g' e=>by
    obtain rfl:=Bz e;exact⟨hg,_,hh⟩
   refine⟨vs.set x y,by rw[AJ,AJ];exact hl,fun j hj=>?_,by rw[AJ,AJ];exact ho.1,Ba ⟨g,cap',cur.setIfInBounds x y,by rw[AJ];exact hv,hg,?_,by rw[AJ];exact Hn,LD,by rw[Array.size_setIfInBounds];exact Hb,?_⟩⟩
   . rw[AJ] at hj
     by_cases e:j=x
     . subst e
       have e1:(vs.set j y).getD j undef=y:=(by simp[hl,hx]);have e2:(L.set j l).getD j []=l:=(by simp[hx]);rw[e1,e2];exact hy.grown hrow hgr
     . have e1:(vs.set x y).getD j undef=vs.getD j undef:=by rw[An,Bw (by omega),<- An]
       have e2:(L.set x l).getD j []=L.getD j []:=(by rw[An,Bw (by omega),<- An]);rw[e1,e2];exact(hr j hj).grown hrow hgr
   . exact Bs w g x _ _ _ hh
   . rw[AJ,Array.toList_setIfInBounds,List.take_set,ht]
theorem qs{N:List Int}{D:List (List Int)}{z n:Nat}(hF:GA N D=I)(hH:PT z N=I)(hJ:np N=AI)(hz:z<=n):gw n N:=fun j hj=>by
 have h1:=(EX hF).2.2 j hj;have h2:=(Lv _ _).1 hH j hj;have h3:=(bQ N).1 hJ j hj;unfold Ei;omega
section
variable {q1 q2:Int}{N1 N2:List Int}{D1 D2 Z G:List (List Int)}{er:Int}
theorem L5{s:DS}(h:s.U=[]):s.vis=s.F:=by unfold DS.vis;rw[h];rfl
end
def eqO(A B:List (List Int)):Prop:=A.length=B.length/\∀ i,Ei i->i<B.length->A.getD i []=B.getD i []
theorem eqO.refl(A:List (List Int)):eqO A A:=⟨rfl,fun _ _ _=>rfl⟩
theorem eqO.trans{A B C:List (List Int)}(h:eqO A B)(k:eqO B C):eqO A C:=⟨h.1.trans k.1,fun i ho hi=>(h.2 i ho (by rw[k.1];exact hi)).trans (k.2 i ho hi)⟩
def okT(n:Nat)(N:List Int)(D:List (List Int)):Prop:=GA N D=I/\PT n N=I/\np N=AI
theorem okT.far{n:Nat}{N:List Int}{D:List (List Int)}(h:okT n N D):gw n N:=qs h.1 h.2.1 h.2.2 (AB _)
theorem okT.takes{n:Nat}{N:List Int}{D:List (List Int)}(h:okT n N D)(Qa:64<=n):Gp n N D=I:=by
 unfold Gp;rw[AF Qa,h.1,h.2.1];rfl
theorem Wh{N:List Int}{D A B:List (List Int)}(hF:GA N D=I)(h:eqO A B):eqO (Cf (Cj N D) A) (Cf (Cj N D) B):=by
 refine⟨by rw[B6,B6];exact h.1,fun i ho hi=>?_⟩;rw[B6] at hi;exact VD hF A B h.1 i hi (AN (h.2 i ho hi))
def Jst(n:Nat)(F G:List (List Int)):Prop:=
 F.length=n/\G.length=n/\((∃ q N D Z,okT n N D/\InvT F q N D Z/\eqO (Cf (Cj N D) Z) G)\/InvN F G)
def Lst(n:Nat)(s:DS)(G:List (List Int)):Prop:=
 s.F.length=n/\eqO s.vis G/\((∃ q N D Z,okT n N D/\InvT s.F q N D Z/\(∀ x∈s.U,x∈Cj N D)/\eqO (Cf (Cj N D) Z) G)\/(InvN s.F G/\s.U=[]))
theorem InvN.toO{F G G':List (List Int)}(h:InvN F G)(k:eqO G G'):InvN F G':=⟨h.1.trans k.1,h.2.1,fun i ho hi=>(h.2.2 i ho (by rw[k.1];exact hi)).trans (k.2 i ho hi)⟩
theorem Jst.toO{n:Nat}{F G G':List (List Int)}(h:Jst n F G)(k:eqO G G'):Jst n F G':=by
 obtain⟨h1,h2,h3⟩:=h;refine⟨h1,k.1.symm.trans h2,h3.imp (fun⟨q,N,D,Z,a,b,c⟩=>⟨q,N,D,Z,a,b,c.trans k⟩) (fun h=>h.toO k)⟩
theorem Lst.toO{n:Nat}{s:DS}{G G':List (List Int)}(h:Lst n s G)(k:eqO G G'):Lst n s G':=by
 obtain⟨h1,h2,h3⟩:=h;exact⟨h1,h2.trans k,h3.imp (fun⟨q,N,D,Z,a,b,c,e⟩=>⟨q,N,D,Z,a,b,c,e.trans k⟩) (fun h=>⟨h.1.toO k,h.2⟩)⟩
theorem Lst.glen{n:Nat}{s:DS}{G:List (List Int)}(h:Lst n s G):G.length=n:=by rw[<- h.2.1.1,DS.vis_length,h.1]
theorem Lst.pay{n:Nat}{s:DS}{G:List (List Int)}(h:Lst n s G):Lst n s.pay G:=h
theorem Lst.crash{n:Nat}{s:DS}{G:List (List Int)}(h:Lst n s G)(aw:43<=n)(kp:Nat->Bool):Jst n (Cf (Ea kp s.U) s.F) G:=by
 have hg:=h.glen;obtain⟨h1,h2,h3⟩:=h;refine⟨by rw[B6];exact h1,hg,?_⟩;rcases h3 with⟨q,N,D,Z,a,b,c,e⟩| ⟨a,b⟩
 . have hz:Z.length=n:=b.1.symm.trans h1
   exact AN ⟨q,N,D,Z,a,b.home a.1 (by rw[hz];exact a.far) (by omega) fun x hx=>c x (Ic hx),e⟩
 . rw[b]
   exact Ba a
theorem YI{q2:Int}{N2:List Int}{D2 G:List (List Int)}(hG:43<=G.length){W:List (Nat × List Int)}(hW:qG q2 N2 D2 W)(oK:GA N2 D2=I)(TW:0<=q2/\q2<4294967296)(s:DS)(hs:InvN s.F G)(hU:s.U=[])(kp:Nat->Bool):
 let r:=BP (Du q2 W) s
 (InvN (Cf (Ea kp r.2.U) r.2.F) G/\r.1=2\/InvT (Cf (Ea kp r.2.U) r.2.F) q2 N2 D2 G)/\
   (r.1=0->r.2.U=[]/\InvT r.2.F q2 N2 D2 G/\∀ i,Ei i->i<G.length->r.2.F.getD i []=G.getD i []):=by
 intro r;obtain⟨k,hk,Mc,hr⟩:=IB (Du q2 W) s;have Mv:r.2.F=(Gg ((Du q2 W).take k) s.fuP).1:=BH Prod.fst Mc;have Mj:r.2.U=(Gg ((Du q2 W).take k) s.fuP).2:=BH Prod.snd Mc;have hlen:(Du q2 W).length=6+W.length:=by simp[Du];omega
 have cC:=hs.1;obtain⟨V0,l9⟩:=nm s.F;have hfu0:s.fuP=(V0,[]):=by rw[l9,<- hU];rfl
 have hN0:InvN V0 G:=by rw[l9];exact hs
 rw[hfu0] at Mv Mj;obtain⟨V1,il⟩:=nm (V0.set 42 z256);have oM:V0.length=G.length:=hN0.1;have aq:V1.length=G.length:=by rw[il,AJ,oM]
 have out42:∀ i,Ei i->42≠i:=fun i hi e=>by rcases hi with h|h <;> omega
 have hN1:InvN V1 G:=⟨aq,by rw[il];exact Nc _ _ _ (by omega),fun i hi hl=>by rw[il,Gi _ _ _ _ (out42 i hi)];exact hN0.2.2 i hi hl⟩;have tO:∀ X,(∀ x∈X,x∈W)->InvN (Cf X V1) G:=fun X hX=>by
  refine⟨by rw[B6,aq],?_,fun i hi hl=>?_⟩
  . rw[Dp X V1 42 fun x hx e=>by have:=(hW.1 x (hX x hx)).2;omega];exact hN1.2.1
  . rw[Dp X V1 i fun x hx e=>by have:=hW.1 x (hX x hx);rcases hi with h|h <;> omega]
    exact hN1.2.2 i hi hl
 obtain⟨V2,ar⟩:=nm (Cf W V1);have rq:V2.length=G.length:=by rw[ar,B6,aq]
 have hN2:InvN V2 G:=by rw[ar];exact tO W fun x hx=>hx
 obtain⟨V3,av⟩:=nm (V2.set 42 (BU (Ec q2)));have rt:V3.length=G.length:=by rw[av,AJ,rq]
 obtain⟨hd,hbl⟩:=hW.2 V1 (by omega);have Ki:=(EX oK).1;have hT3:IS (EK V3) q2 N2 D2:=by
  refine Xx (by omega) oK TW ?_ (fun j hj=>?_) ?_
  . rw[av,Gi _ _ _ _ (by omega),ar];exact hd
  . rw[av,Gi _ _ _ _ (by omega),ar];exact hbl j hj
  . rw[av];exact Nc _ _ _ (by omega)
 have lL:∀ i,Ei i->i<G.length->V3.getD i []=G.getD i []:=fun i hi hl=>by rw[av,Gi _ _ _ _ (out42 i hi)];exact hN2.2.2 i hi hl
 have ru:InvT V3 q2 N2 D2 G:=⟨rt,hT3,fun i hi hl=>AN (lL i hi hl)⟩;have a1:Gg [.f,.w 42 z256,.f] (V0,[])=(V1,[]):=by
  show(Cf ([] ++ [(42,z256)]) (Cf [] V0),([]:List (Nat × List Int)))=(V1,[])
  rw[il];rfl
 have full:k=(Du q2 W).length->r.2.F=V3/\r.2.U=[]:=fun e=>by
  rw[Mv,Mj,e,B8];unfold Du;rw[Cs,Cs,Gz,a1];show(Cf ([] ++ [(42,BU (Ec q2))]) (Cf ([] ++ W) V1))=V3/\_
  rw[av,ar];exact⟨rfl,rfl⟩
 refine⟨?_,fun h0=>?_⟩
 . have Of:k=0\/k=1\/k=2\/(3<=k/\k<=3+W.length)\/k=4+W.length\/k=5+W.length\/k=6+W.length:=by omega
   have h2:k≠(Du q2 W).length->r.1=2:=fun hne=>by
    rcases hr with⟨_,h⟩|h
    . exact absurd h hne
    . exact h
   have step:∀ j,(Du q2 W).take (3+j)=([PA.f,PA.w 42 z256,PA.f]:List PA) ++ ((W.map fun y:Nat × List Int=>PA.w y.1 y.2) ++ [PA.f,PA.w 42 (BU (Ec q2)),PA.f]).take j:=fun j=>by
    unfold Du;rw[AQ];exact DT (l₁:=([PA.f,PA.w 42 z256,PA.f]:List PA)) j
   rcases Of with rfl|rfl|rfl| ⟨ha,hb⟩|rfl|rfl|rfl
   . have e1:r.2.F=V0:=Mv
     have e2:r.2.U=[]:=Mj;rw[e1,e2];exact AN ⟨hN0,h2 (by omega)⟩
   . have e1:r.2.F=V0:=Mv
     have e2:r.2.U=[]:=Mj;rw[e1,e2];exact AN ⟨hN0,h2 (by omega)⟩
   . have e1:r.2.F=V0:=Mv
     have e2:r.2.U=[(42,z256)]:=Mj;rw[e1,e2];rcases LL kp (42,z256) with e|e
     . rw[e];exact AN ⟨hN0,h2 (by omega)⟩
     . rw[e]
       refine AN ⟨?_,h2 (by omega)⟩;show InvN (V0.set 42 z256) G
       rw[<- il];exact hN1
   . obtain⟨j,rfl⟩:∃ j,k=3+j:=⟨k-3,by omega⟩
     have hj:j<=W.length:=(by omega);rw[step,CT (by simpa using hj),<- List.map_take,Cs,a1,Gz] at Mv Mj;rw[Mv,Mj];refine AN ⟨tO _ fun x hx=>?_,h2 (by omega)⟩;have:=Ic hx;rw[B0] at this;exact Dg this
   . have e0:(Du q2 W).take (4+W.length)=[.f,.w 42 z256,.f] ++ ((W.map fun y=>PA.w y.1 y.2) ++ [.f]):=by
      rw[show 4+W.length=3+(W.length+1) by omega,step];congr 1;rw[show W.length+1=(W.map fun y=>PA.w y.1 y.2).length+1 by simp,DT];rfl
     rw[e0,Cs,Cs,a1,Gz] at Mv Mj;have e1:r.2.F=V2:=(by rw[ar];exact Mv);have e2:r.2.U=[]:=Mj;rw[e1,e2];exact AN ⟨hN2,h2 (by omega)⟩
   . have e0:(Du q2 W).take (5+W.length)=[.f,.w 42 z256,.f] ++ ((W.map fun y=>PA.w y.1 y.2) ++ [.f,.w 42 (BU (Ec q2))]):=by
      rw[show 5+W.length=3+(W.length+2) by omega,step];congr 1;rw[show W.length+2=(W.map fun y=>PA.w y.1 y.2).length+2 by simp,DT];rfl
     rw[e0,Cs,Cs,a1,Gz] at Mv Mj;have e1:r.2.F=V2:=(by rw[ar];exact Mv);have e2:r.2.U=[(42,BU (Ec q2))]:=Mj;rw[e1,e2];rcases LL kp (42,BU (Ec q2)) with e|e
     . rw[e];exact AN ⟨hN2,h2 (by omega)⟩
     . rw[e]
       refine Ba ?_;show InvT (V2.set 42 (BU (Ec q2))) q2 N2 D2 G
       rw[<- av];exact ru
   . obtain⟨e1,e2⟩:=full (by omega)
     rw[e1,e2];exact Ba ru
 . have I3:k=(Du q2 W).length:=by
    rcases hr with⟨_,h⟩|h
    . exact h
    . have h0':(BP (Du q2 W) s).1=0:=h0
      rw[h0'] at h;cases h
   obtain⟨e1,e2⟩:=full I3;rw[e1,e2];exact⟨rfl,ru,lL⟩
def Mst(n:Nat)(s:DS)(q:Int)(N:List Int)(D G:List (List Int)):Prop:=s.U=[]/\s.F.length=n/\InvT s.F q N D G/\eqO s.F G
theorem Lst.write{n:Nat}{s:DS}{G:List (List Int)}(h:Lst n s G)(aw:43<=n){q:Int}{N:List Int}{D:List (List Int)}(hT:okT n N D)(hq:0<=q/\q<4294967296):
 let r:=BP (Du q (Es q N D)) s
 (∀ kp,r.1=2->Jst n (Cf (Ea kp r.2.U) r.2.F) G\/Jst n (Cf (Ea kp r.2.U) r.2.F) (Cf (Cj N D) G))/\(r.1=0->Mst n r.2 q N D G):=by
 intro r;have hg:=h.glen;obtain⟨h1,h2,h3⟩:=h;have hl:r.2.F.length=n:=(FL _ s).1.trans h1;have im:∀ kp,(Cf (Ea kp r.2.U) r.2.F).length=n:=fun kp=>by rw[B6,hl]
 have hGn:(Cf (Cj N D) G).length=n:=by rw[B6,hg]
 rcases h3 with⟨q1,N1,D1,Z,a,b,c,e⟩| ⟨a,b⟩
 . have hz:Z.length=n:=b.1.symm.trans h1
   have oP:∀ i,Ei i->i<Z.length->s.vis.getD i []=(Cf (Cj N1 D1) Z).getD i []:=fun i ho hi=>by
    rw[hz] at hi;exact(h2.2 i ho (by omega)).trans (e.2 i ho (by omega)).symm
   have key:=fun kp=>ff (q1:=q1) (q2:=q) (by omega) (aY hT.1) a.1 (by rw[hz];exact a.far) hT.1 hq s b c oP kp
   refine⟨fun kp h2'=>?_,fun h0=>?_⟩
   . rcases(key kp).1 with⟨k1,_⟩| ⟨k1,_⟩|k1
     . exact AN ⟨im kp,hg,AN ⟨q1,N1,D1,Z,a,k1,e⟩⟩
     . exact AN ⟨im kp,hg,Ba (k1.toO e)⟩
     . exact Ba ⟨im kp,hGn,AN ⟨q,N,D,_,hT,k1,Wh hT.1 e⟩⟩
   . obtain⟨k1,k2,k3⟩:=(key fun _=>I).2 h0
     have hge:eqO r.2.F G:=⟨by rw[hl,hg],fun i ho hi=>(k3 i ho (by omega)).trans (e.2 i ho hi)⟩;refine⟨k1,hl,⟨by rw[hl,hg],k2.2.1,fun i ho hi=>AN (hge.2 i ho hi)⟩,hge⟩
 . have key:=fun kp=>YI (q2:=q) (by omega) (aY hT.1) hT.1 hq s a b kp
   refine⟨fun kp h2'=>?_,fun h0=>?_⟩
   . rcases(key kp).1 with⟨k1,_⟩|k1
     . exact AN ⟨im kp,hg,Ba k1⟩
     . exact Ba ⟨im kp,hGn,AN ⟨q,N,D,_,hT,k1,eqO.refl _⟩⟩
   . obtain⟨k1,k2,k3⟩:=(key fun _=>I).2 h0
     exact⟨k1,hl,k2,⟨by rw[hl,hg],fun i ho hi=>k3 i ho hi⟩⟩
theorem Mst.home{n:Nat}{s:DS}{q:Int}{N:List Int}{D G:List (List Int)}(h:Mst n s q N D G)(aw:43<=n)(hT:okT n N D):
 let r:=BP (B9 N D) s
 (∀ kp,Jst n (Cf (Ea kp r.2.U) r.2.F) (Cf (Cj N D) G))/\(r.1=0->Lst n r.2 (Cf (Cj N D) G)):=by
 intro r;obtain⟨h1,h2,h3,h4⟩:=h;have hg:G.length=n:=h4.1.symm.trans h2;have hl:r.2.F.length=n:=(FL _ s).1.trans h2;have key:∀ kp,InvT (Cf (Ea kp r.2.U) r.2.F) q N D G:=fun kp=>by
  have:=(Rj hT.1 (by rw[hg];exact hT.far) (by omega) s h3 (by rw[h1];intro x hx;cases hx) AI kp).1;rw[show(if (AI:Bool)=I then [PA.f] else [])=[] from rfl,BB] at this;exact this
 refine⟨fun kp=>⟨by rw[B6,hl],by rw[B6,hg],AN ⟨q,N,D,G,hT,key kp,eqO.refl _⟩⟩,fun h0=>?_⟩;obtain⟨k,hk,Mc,hr⟩:=IB (B9 N D) s;have I3:k=(B9 N D).length:=by
  rcases hr with⟨_,h⟩|h
  . exact h
  . have h0':(BP (B9 N D) s).1=0:=h0
    rw[h0'] at h;cases h
 have Mv:r.2.F=(Gg ((B9 N D).take k) s.fuP).1:=BH Prod.fst Mc;have Mj:r.2.U=(Gg ((B9 N D).take k) s.fuP).2:=BH Prod.snd Mc;rw[I3,JO] at Mv Mj;have e3:(Cj N D).take (B9 N D).length=Cj N D:=AV (by simp[B9]);rw[e3] at Mj;have e1:r.2.F=s.F:=Mv;have e2:r.2.U=Cj N D:=by rw[Mj];show s.U ++ _=_;rw[h1,B0]
 refine⟨hl,?_,AN ⟨q,N,D,G,hT,by rw[e1];exact h3,(fun x hx=>by rw[e2] at hx;exact hx),eqO.refl _⟩⟩;show eqO (Cf r.2.U r.2.F) _
 rw[e1,e2];exact Wh hT.1 h4
theorem run_fu(a:PA)(s:DS):(a.run s).fu=s.fu:=by cases a <;> rfl
theorem Qj:∀ (A:List PA) (s:DS),(BP A s).2.fu=s.fu
 |[],s=>rfl
 |a :: A,s=>by
  rw[Ey];split
  . exact(Qj A _).trans (run_fu a s)
  . rfl
theorem WH{w:Ah}{P:Nat->Prop}{p:Aq}{s:DS}(h:Dk w P p s){n:Nat}{G:List (List Int)}(Qa:64<=n)(hU:s.U=[])(hd:s.dn=AI)(hJ:Jst n s.F G):
 AA Ae 65 #[p] w fun e w'=>∃ x r s' P',e=Ag (AO #[Y .u32 x,Y H r])/\Dk w' P' p s'/\Chg P P' w w'/\s'.U.length<=1000/\s'.F.length=n/\(r=0\/r=2)/\(∀ k,Jst n (s'.crash k).F G)/\(r=0->s'.dn=AI/\s'.U=[]/\Lst n s' G)/\(s.fu=AI->r=0)/\(0<=x/\x<4294967296)/\s'.fu=s.fu:=by
 have hJ':=hJ;obtain⟨Vv,hg,hI⟩:=hJ;have hv:=L5 hU;have hU0:s.U.length<=900000:=by rw[hU];show 0<=900000;omega
 have tR:∀ (A:List PA) (t:DS),(BP A t).1=0->t.dn=AI->(BP A t).2.dn=AI:=by
  intro A;induction A with
  |nil=>intro t _ h;exact h
  |cons a A ih=>
   intro t h0 tS;rw[Ey] at h0 |-
   cases hok:t.ok
   . rw[hok,AE CH] at h0
     exact absurd (show(2:Int)=0 from h0) (by decide)
   . rw[hok,AC rfl] at h0
     rw[AC rfl];refine ih _ h0 ?_;have:XS t.fu t.le t.dn=AI:=by
      unfold DS.ok l4 at hok;unfold XS
      revert hok
      rw[tS];cases t.fu <;> simp
     cases a <;> exact this
 rcases hI with⟨q,N,D,Z,hT,hI,he⟩|hN
 . have hz:Z.length=n:=hI.1.symm.trans Vv
   have l37:=(EX hT.1).1;have hc:∀ kp,InvT (Cf (Ea kp (BP (B9 N D ++ [.f]) s).2.U) (BP (B9 N D ++ [.f]) s).2.F) q N D Z/\InvT (BP (B9 N D ++ [.f]) s).2.F q N D Z/\(∀ x∈(BP (B9 N D ++ [.f]) s).2.U,x∈Cj N D):=fun kp=>Rj hT.1 (by rw[hz];exact hT.far) (by omega) s hI (by rw[hU];intro x hx;cases hx) I kp
   have hlen:=FL (B9 N D ++ [.f]) s;rw[Ax,FA,hU] at hlen;have hfree:=fun h1=>LR (B9 N D ++ [.f]) s h1 hd
   refine(Ul h (by omega) hd hU0 (q:=q) (N:=N) (D:=D) ⟨by rw[hv];exact hI.2.1,by rw[Vv];exact hT.2.1⟩).mono ?_;rintro e w' ⟨x,rfl,⟨P',hk,tT⟩,_,Qb⟩;refine⟨x,_,_,P',rfl,hk,tT,by have:=hlen.2;simp at this;omega,hlen.1.trans Vv,FR _ _,fun k=>⟨by show(Cf _ _).length=n;rw[B6,hlen.1,Vv],hg,AN ⟨q,N,D,Z,hT,(hc (cY k)).1,he⟩⟩,fun h0=>?_,fun h1=>(hfree h1).1,Qb,Qj _ _⟩;obtain⟨k,hk',Mc,hr⟩:=IB (B9 N D ++ [.f]) s;have I3:k=(B9 N D ++ [PA.f]).length:=by
    rcases hr with⟨_,h⟩|h
    . exact h
    . rw[h0] at h;cases h
   rw[I3,B8,Cs] at Mc;have e2:=JO N D (B9 N D).length s.fuP;rw[B8] at e2;have e3:(Cj N D).take (B9 N D).length=Cj N D:=AV (by simp[B9]);rw[e3] at e2;rw[e2] at Mc;have a1:(BP (B9 N D ++ [.f]) s).2.F=Cf (s.U ++ Cj N D) s.F:=BH Prod.fst Mc;have a2:(BP (B9 N D ++ [.f]) s).2.U=[]:=BH Prod.snd Mc;rw[hU,B0] at a1;refine⟨tR _ _ h0 hd,a2,hlen.1.trans Vv,?_,AN ⟨q,N,D,Z,hT,(hc fun _=>I).2.1,(fun x hx=>by rw[a2] at hx;cases hx),he⟩⟩;rw[L5 a2,a1];exact eqO.trans ⟨by rw[B6,B6,Vv,hz],fun i ho hi=>hI.done hT.1 i ho (by rw[B6] at hi;exact hi)⟩ he
 . have C6:∀ q N D,¬ QU s.F.length (EK s.vis) q N D:=fun q N D ht=>eM (by rw[DS.vis_length];omega) (by rw[hv];exact hN.2.1) q N D ht.1
   have hst:(BP ([] ++ [.f]) s).2.F=s.F/\(BP ([] ++ [.f]) s).2.U=[]:=by
    rw[B0,Ey];cases hok:s.ok
    . rw[AE CH]
      exact⟨rfl,hU⟩
    . rw[AC rfl]
      exact⟨hv,rfl⟩
   have hfree:=fun h1=>LR ([] ++ [.f]) s h1 hd
   refine(Xd h (by omega) hd hU0 C6).mono ?_;rintro e w' ⟨x,rfl,⟨P',hk,tT⟩,_,Qb⟩;refine⟨x,_,_,P',rfl,hk,tT,by rw[hst.2];show 0<=1000;omega,by rw[hst.1];exact Vv,FR _ _,fun k=>?_,fun h0=>?_,fun h1=>(hfree h1).1,Qb,Qj _ _⟩
   . show Jst n (Cf (Ea (cY k) _) _) G
     rw[hst.1,hst.2];exact⟨Vv,hg,Ba hN⟩
   . refine⟨tR _ _ h0 hd,hst.2,by rw[hst.1];exact Vv,?_,Ba ⟨by rw[hst.1];exact hN,hst.2⟩⟩
     rw[L5 hst.2,hst.1];exact⟨by rw[Vv,hg],hN.2.2⟩
end
section
open Go.RowKit BM
theorem Pj(O:List (Int × Int)):∀ k j,j<k->∃ R,EG O k=EG O j ++ (BN (O.getD j (0,0)).1 2 ++ (BN (O.getD j (0,0)).2 2 ++ R))
 |0,j,h=>absurd h (A8 _)
 |k+1,j,h=>by
  rw[EG];rcases Nat.lt_succ_iff_lt_or_eq.1 h with h|rfl
  . obtain⟨R,e⟩:=Pj O k j h
    exact⟨R ++ (BN (O.getD k (0,0)).1 2 ++ BN (O.getD k (0,0)).2 2),by rw[e];simp⟩
  . exact⟨[],by simp⟩
theorem eP{O:List (Int × Int)}(hB:OwB O){k j:Nat}(hj:j<k):VX (EG O k) j=O.getD j (0,0):=by
 obtain⟨R,e⟩:=Pj O k j hj;have b:=hB j;have e0:(256:Int) ^ 2=65536:=rfl;have e1:Cc (EG O k) (4*j) 2=(O.getD j (0,0)).1:=by
  rw[e,ID _ _ _ 2 b.1.1 (4*j) (Fz O j)];omega
 have e2:Cc (EG O k) (4*j+2) 2=(O.getD j (0,0)).2:=by
  rw[e,<- AQ,ID _ _ _ 2 b.2.1 (4*j+2) (by rw[Ax,Fz,Bc])];omega
 exact Prod.ext e1 e2
theorem eK{O:List (Int × Int)}(hB:OwB O)(h:O.length=64):Nn (D3 O) 64=O:=by
 apply Bi (by rw[Gb,h]);intro i h1 h2;have h3:i<64:=by rwa [Gb] at h1
 have e:=eP hB (k:=64) h3;simp only[Nn,Ct,Cg,D3,h];rw[e,An,AS h2];rfl
def Fa(O:List (Int × Int))(g:Nat):List (Int × Int):=(O.drop (64*g)).take 64
theorem FZ{O:List (Int × Int)}{k g:Nat}(h:O.length=64*k)(hg:g<k):(Fa O g).length=64:=by
 unfold Fa;rw[AK,AU];omega
theorem Jf(O:List (Int × Int))(g:Nat){j:Nat}(hj:j<64):(Fa O g).getD j (0,0)=O.getD (64*g+j) (0,0):=by
 unfold Fa;rw[An,AZ,AC hj,Bp,An]
theorem bD(O:List (Int × Int)){n g:Nat}(o:Int × Int)(hg:n / 64≠g):Fa (O.set n o) g=Fa O g:=by
 apply List.ext_getElem?;intro i;unfold Fa;rw[AZ,AZ];split
 . rw[Bp,Bp,Bw (by omega)]
 . rfl
theorem Vg(O:List (Int × Int))(n:Nat)(o:Int × Int):Fa (O.set n o) (n / 64)=(Fa O (n / 64)).set (n%64) o:=by
 apply List.ext_getElem?;intro i;unfold Fa;rw[AZ];by_cases hi:i<64
 . rw[AC hi,Bp]
   by_cases he:n%64=i
   . have e1:64*(n / 64)+i=n:=by omega
     rw[e1];by_cases hn:n<O.length
     . rw[CB hn,he,CB (by rw[AK,AU];omega)]
     . rw[A5 (by rw[AJ];omega),A5 (by rw[AJ,AK,AU];omega)]
   . rw[Bw (by omega),Bw he,AZ,AC hi,Bp]
 . rw[AE hi,A5]
   rw[AJ,AK];omega
structure OOk (O:List (Int × Int)) (k:Nat):Prop where
 len:O.length=64*k
 k1:1<=k
 k12:k<=12
 bd:OwB O
 frm:∀ j,j<64*k->OU O j=I
 fx:∀ j,j<64*k->decide ((O.getD j (0,0)).1=65535)=CJ (j:Int)
theorem OwB.set{O:List (Int × Int)}(h:OwB O)(n:Nat){i j:Int}(hi:0<=i/\i<=65535)(hj:0<=j/\j<=65535):OwB (O.set n (i,j)):=fun m=>by
 rw[An];by_cases hm:m=n
 . subst hm
   by_cases hl:m<O.length
   . rw[CB hl];exact⟨hi,hj⟩
   . rw[A5 (by rw[AJ];omega)];decide
 . rw[Bw (CR hm),<- An];exact h m
theorem OOk.set{O:List (Int × Int)}{k n:Nat}(h:OOk O k)(hn:n<64*k)(hx:CJ (n:Int)=AI){i j:Int}(hi:0<=i/\i<=65535)(hj:0<=j/\j<=65535)(hf:GF i j=I)(hne:i≠65535):OOk (O.set n (i,j)) k:=by
 have hl:=h.len;have e:∀ m,(O.set n (i,j)).getD m (0,0)=if m=n then (i,j) else O.getD m (0,0):=fun m=>getD_set O n m (i,j) (0,0) (by omega)
 refine⟨by rw[AJ];exact hl,h.k1,h.k12,h.bd.set n hi hj,fun m hm=>?_,fun m hm=>?_⟩
 . unfold OU;rw[e];split
   . exact hf
   . exact h.frm m hm
 . rw[e];split
   . next Vu=>rw[Vu,hx];exact AG hne
   . exact h.fx m hm
theorem OOk.gr{O:List (Int × Int)}{k g:Nat}(h:OOk O k)(hg:g<k):OwB (Fa O g)/\F5 (Fa O g)=I/\∀ j,j<64->decide (((Fa O g).getD j (0,0)).1=65535)=CJ (64*(g:Int)+j):=by
 have hl:=FZ h.len hg;refine⟨Ku fun j hj=>?_,?_,fun j hj=>?_⟩
 . rw[Jf O g (by omega)];exact h.bd _
 . rw[F5,hl,(Nh _ 64).2 fun j hj=>?_];· rfl
   have:=h.frm (64*g+j) (by omega);unfold OU at this |-
   rw[Jf O g hj];exact this
 . rw[Jf O g hj,h.fx _ (by omega)];congr 1
def Ci(g:Nat):Nat:=if g=0 then 1 else 64*g
theorem UF{g:Nat}(hg:g<12):Ix (g:Int)=(Ci g:Int):=by
 unfold Ix Ci;rw[AC (by omega)];by_cases h:g=0
 . subst h;rfl
 . rw[AE (by omega),AE h];omega
theorem Yw{g:Nat}(hg:g<12):RT (g:Int)=(Ci g:Int)+1:=by
 unfold RT;rw[AC (by omega),UF hg]
theorem JL{g k:Nat}(hg:g<k):Ci g+1<64*k/\Ei (Ci g)/\Ei (Ci g+1):=by
 unfold Ci Ei;split <;> omega
theorem T0{g m:Nat}(h:g≠m):Ci g≠Ci m/\Ci g+1≠Ci m/\Ci g≠Ci m+1:=by
 unfold Ci;split <;> split <;> omega
structure Has (G:List (List Int)) (O:List (Int × Int)) (k:Nat):Prop where
 len:G.length=64*k
 ds:∀ g,g<k->G.getD (Ci g) []=GI (g:Int) (CQ (Fa O g) 64)
 ow:∀ g,g<k->G.getD (Ci g+1) []=D3 (Fa O g)
def putG(G:List (List Int))(g:Nat)(D:List (Int × Int)):List (List Int):=(G.set (Ci g+1) (D3 D)).set (Ci g) (GI (g:Int) (CQ D 64))
theorem Has.put{G:List (List Int)}{O:List (Int × Int)}{k n:Nat}(h:Has G O k)(hn:n<64*k)(o:Int × Int):Has (putG G (n / 64) (Fa (O.set n o) (n / 64))) (O.set n o) k:=by
 have hg:n / 64<k:=by omega
 have hl:=h.len;have hi:=JL hg;have e:∀ m,(putG G (n / 64) (Fa (O.set n o) (n / 64))).getD m []=if m=Ci (n / 64) then GI ((n / 64:Nat):Int) (CQ (Fa (O.set n o) (n / 64)) 64) else if m=Ci (n / 64)+1 then D3 (Fa (O.set n o) (n / 64)) else G.getD m []:=fun m=>by
  unfold putG;rw[getD_set _ _ _ _ _ (by rw[AJ];omega),getD_set _ _ _ _ _ (by omega)]
 refine⟨by unfold putG;rw[AJ,AJ];exact hl,fun g lN=>?_,fun g lN=>?_⟩
 . by_cases he:g=n / 64
   . subst he;rw[e,AC rfl]
   . have hne:=T0 he
     rw[e,AE hne.1,AE hne.2.2,bD O o (CR he)];exact h.ds g lN
 . by_cases he:g=n / 64
   . subst he;rw[e,AE (by omega),AC rfl]
   . have hne:=T0 he
     rw[e,AE hne.2.1,AE (by omega),bD O o (CR he)];exact h.ow g lN
theorem VA(L:List Bool)(b:Bool):Eo (L ++ [b])=Eo L+if b then 1 else 0:=by
 unfold Eo;rw[List.filter_append];cases b <;> simp
theorem S1(O:List (Int × Int))(j:Nat):E8 O j=!CU O j:=by
 unfold E8 CU;by_cases h:(O.getD j (0,0)).1=0 <;> simp
theorem RE{O:List (Int × Int)}{k:Nat}(h:OOk O k):∀ L,L<=64*k->Eo (CQ O L)=Dm O L+gh L
 |0,_=>rfl
 |L+1,hL=>by
  have ih:=RE h L (by omega);have hf:=h.fx L (by omega);rw[Rq,VA,ih,Dm,gh,S1];cases hx:CJ (L:Int)
  . cases hr:CU O L <;> simp <;> omega
  . rw[hx] at hf
    have hr:CU O L=AI:=by
     have:=A7 hf;unfold CU;exact AG (by omega)
    rw[hr];simp;omega
theorem nk{O:List (Int × Int)}{L:Nat}(h0:0<L)(goal:Int):Lh (CQ O L) goal=Hk O L (Hl L goal):=by
 have hl:=EZ O L;obtain⟨g,hg⟩:=nm (Hl L goal);have hgL:g<L:=by rw[hg];unfold Hl;split <;> omega
 have hu:∀ j,j<L->(CQ O L).getD j AI=!CU O j:=fun j hj=>by rw[Zu O L j hj,S1]
 have ry:∀ j,j<L->(CQ O L).getD j AI=I->CU O j=AI:=fun j hj h=>by rw[hu j hj] at h;simpa using h
 have Ol:∀ j,j<L->(CQ O L).getD j AI=AI->CU O j=I:=fun j hj h=>by rw[hu j hj] at h;simpa using h
 have e:Lh (CQ O L) goal=if 0<=Ff (CQ O L) g then Ff (CQ O L) g else Ff (CQ O L) 0:=by
  unfold Lh;rw[hl];unfold Hl at hg;by_cases hin:0<=goal/\goal<L
  . rw[AE (show ¬ (goal<0\/(L:Int)<=goal) by omega)] at hg
    rw[AC hin,hg]
  . rw[AC (show goal<0\/(L:Int)<=goal by omega)] at hg
    rw[AE hin,hg];split <;> rfl
 rw[e,<- hg];clear e hg;rcases N6 (CQ O L) g with⟨e1,a1⟩| ⟨j,gj,jl,e1,z1,a1⟩
 . rw[e1,AE (by omega)]
   rcases N6 (CQ O L) 0 with⟨e2,a2⟩| ⟨j,gj,jl,e2,z2,a2⟩
   . rw[e2,YR fun i hi=>?_]
     have hm:(g+i)%L<L:=Gl _ h0;exact ry _ hm (a2 _ (AX _) (by omega))
   . rw[hl] at jl a1
     have hjg:j<g:=by
      apply Vh;intro hn;have:=a1 j (by omega) jl;rw[z2] at this;cases this
     have em:(g+(L-g+j))%L=j:=by
      rw[show g+(L-g+j)=j+L by omega,Nat.add_mod_right,C5 jl]
     rw[e2,TK (k:=L-g+j) (by omega) (by rw[em];exact Ol j jl z2) fun i hi=>?_,em];by_cases Hc:g+i<L
     . rw[C5 Hc];exact ry _ Hc (a1 _ (by omega) Hc)
     . rw[show g+i=(g+i-L)+L by omega,Nat.add_mod_right,C5 (by omega)]
       exact ry _ (by omega) (a2 _ (AX _) (by omega))
 . rw[hl] at jl
   have em:(g+(j-g))%L=j:=(by rw[show g+(j-g)=j by omega,C5 jl]);rw[e1,AC (by omega),TK (k:=j-g) (by omega) (by rw[em];exact Ol j jl z1) fun i hi=>?_,em];rw[C5 (by omega)];exact ry _ (by omega) (a1 _ (by omega) (by omega))
end
section
open Go.RowKit
def num(L:List Int)(i:Nat):Int:=L.getD i 0
def IG(i:Nat):Nat:=if i=1 then 1 else 2
def pos:Nat->Nat
 |0=>8
 |i+1=>pos i+IG i
def Yx:List Int:=[97,115,104,108,97,114,32,49]
def Hg(L:List Int):Nat->List Int
 |0=>Yx
 |i+1=>Hg L i ++ BN (num L i) (IG i)
theorem ET(L:List Int):∀ i,(Hg L i).length=pos i
 |0=>rfl
 |i+1=>by rw[Hg,Ax,ET L i,Bc];rfl
def bV(tg cu io ba:Int):Bool:=(tg==0) && ((cu==0) && ((io==0) && (ba==0)))
def vi(b tg cu io ba:Int):Bool:=CY tg && (decide (b<tg) && (decide (b / 64<=cu/\cu<=tg / 64) && ((io==0) && (ba==0))))
def XO(b tg cu io ba:Int):Bool:=CY tg && (decide (tg<b) && ((cu==0) && ((io==0) && (ba==0))))
def lX(b tg cu io ba:Int):Bool:=(tg==0) && (decide (1<=io/\io<=47) && (decide (0<=ba/\ba<=b) && decide (0<=cu/\cu<=b)))
def qV(b st tg cu io ba:Int):Bool:=if st=0 then bV tg cu io ba else if st=1 then vi b tg cu io ba else if st=2 then XO b tg cu io ba else if st=3 then lX b tg cu io ba else AI
def GH(L:List Int):Bool:=qV (num L 0) (num L 1) (num L 2) (num L 3) (num L 4) (num L 5)
def Yh(L:List Int)(i:Nat):Prop:=(0<=num L (6+i)/\num L (6+i)<=num L 0-1)/\CJ (num L (6+i))=AI/\∀ k,k<i->num L (6+k)≠num L (6+i)
open Classical in
noncomputable def Mn(L:List Int):Nat->Bool
 |0=>I
 |i+1=>Mn L i && decide (Yh L i)
open Classical in
theorem Ji(L:List Int):∀ n,Mn L n=I ↔ ∀ i,i<n->Yh L i
 |0=>⟨fun _ i h=>absurd h (A8 _),fun _=>rfl⟩
 |n+1=>by
  rw[Mn,AY,Ji L n,Bd];refine⟨fun⟨h1,h2⟩ i hi=>?_,fun h=>⟨fun i hi=>h i (by omega),h n (by omega)⟩⟩;by_cases e:i=n
  . rw[e];exact h2
  . exact h1 i (by omega)
theorem Q7{L:List Int}{j:Nat}(h:Mn L j=I)(hk:Yh L j):Mn L (j+1)=I:=
 (Ji L (j+1)).2 fun i hi=>by
   by_cases e:i=j
   . rw[e];exact hk
   . exact(Ji L j).1 h i (by omega)
noncomputable def GT(L:List Int):Bool:=Mn L 6
noncomputable def D7(L:List Int):Bool:=CY (num L 0) && (GH L && GT L)
noncomputable def We(L:List Int):Int:=if D7 L=I then (if num L 1=2 then num L 2 else num L 0) else 0
def GD(L:List Int):List Int:=BU (Hg L 12)
def RY(l:List Int):List Int:=(Co 12).map fun i=>Cc l (pos i) (IG i)
theorem Ir(l:List Int):(RY l).length=12:=by simp[RY]
theorem aK(l:List Int)(i:Nat)(h:i<12):num (RY l) i=Cc l (pos i) (IG i):=by
 simp[num,RY,h]
def qH(l:List Int):Prop:=FG l/\D7 (RY (l.take 252))=I/\GD (RY (l.take 252))=l
def tt(l:List Int):List Int:=RY (l.take 252)
theorem Ov{L:List Int}(h:D7 L=I):CY (num L 0)=I/\GH L=I/\GT L=I:=by
 simpa [D7] using h
theorem LU{L:List Int}(h:GT L=I):∀ i,i<6->Yh L i:=(Ji L 6).1 h
theorem U8{L:List Int}(h:D7 L=I):∀ i,i<12->0<=num L i/\num L i<256 ^ IG i:=by
 obtain⟨h1,h2,h3⟩:=Ov h;have hb:=A7 h1;have hst:num L 1=0\/num L 1=1\/num L 1=2\/num L 1=3:=by
  unfold GH qV at h2;split at h2
  . exact AN ‹_›
  . split at h2
    . exact Ba (AN ‹_›)
    . split at h2
      . exact Ba (Ba (AN ‹_›))
      . split at h2
        . exact Ba (Ba (Ba ‹_›))
        . cases h2
 have Qt:∀ {t:Int},CY t=I->0<=t/\t<=768:=fun h=>by have:=A7 h;omega
 have hq:(0<=num L 2/\num L 2<=768)/\(0<=num L 3/\num L 3<=768)/\(0<=num L 4/\num L 4<=768)/\(0<=num L 5/\num L 5<=768):=by
  unfold GH qV at h2;rcases hst with e|e|e|e
  . rw[e] at h2;simp only[if_true,bV,AY,beq_iff_eq] at h2;omega
  . rw[e] at h2
    simp only[show ¬ (1:Int)=0 by decide,if_false,if_true,vi,AY,beq_iff_eq,Bd] at h2;have:=Qt h2.1;omega
  . rw[e] at h2
    simp only[show ¬ (2:Int)=0 by decide,show ¬ (2:Int)=1 by decide,if_false,if_true,XO,AY,beq_iff_eq,Bd] at h2;have:=Qt h2.1;omega
  . rw[e] at h2
    simp only[show ¬ (3:Int)=0 by decide,show ¬ (3:Int)=1 by decide,show ¬ (3:Int)=2 by decide,if_false,if_true,lX,AY,beq_iff_eq,Bd] at h2;omega
 have ht:=LU h3;intro i hi;have w2:∀ j,j≠1->(256:Int) ^ IG j=65536:=fun j hj=>by rw[IG,AE hj];rfl
 by_cases h0:i=0
 . subst h0;rw[w2 0 (by decide)];omega
 by_cases h1:i=1
 . subst h1;rw[show(256:Int) ^ IG 1=256 from rfl];omega
 rw[w2 i h1];by_cases h6:i<6
 . have:i=2\/i=3\/i=4\/i=5:=by omega
   rcases this with rfl|rfl|rfl|rfl <;> omega
 . obtain⟨k,rfl⟩:∃ k,i=6+k:=⟨i-6,by omega⟩
   have:=(ht k (by omega)).1;omega
theorem jt(A B:List Int)(n:Int)(k:Nat)(h:0<=n)(h1:n<256 ^ k):Cc (A ++ (BN n k ++ B)) A.length k=n:=by
 unfold Cc;rw[List.drop_left,Dl (Bc n k),Kq n k h];exact Dw h h1
theorem YS(L:List Int)(i:Nat):∀ j,i<j->∃ B,Hg L j=Hg L i ++ (BN (num L i) (IG i) ++ B):=by
 intro j;induction j with
 |zero=>intro h;omega
 |succ j ih=>
  intro h;by_cases e:i=j
  . subst e;exact⟨[],by rw[Hg];simp⟩
  . obtain⟨B,hB⟩:=ih (by omega)
    exact⟨B ++ BN (num L j) (IG j),by rw[Hg,hB];simp⟩
theorem Zb(L:List Int):(Hg L 12).length=31:=ET L 12
theorem gG(c:List Int)(h:c.length<=252):(BU c).take 252=DM c:=by
 rw[BU,Dl (EU c h)]
theorem qN{L:List Int}(h:L.length=12)(M:List Int)(h':M.length=12)(e:∀ i,i<12->num L i=num M i):L=M:=by
 apply Bi (by rw[h,h']);intro i h1 h2;have:=e i (by omega)
 simpa [num,h1,h2] using this
theorem qU{L:List Int}(hL:L.length=12)(h:D7 L=I):RY ((GD L).take 252)=L:=by
 refine qN (Ir _) _ hL fun i hi=>?_
 rw[aK _ _ hi,GD,gG _ (by rw[Zb];decide),DM];obtain⟨B,hB⟩:=YS L i 12 hi;obtain⟨h0,h1⟩:=U8 h i hi;rw[hB,AQ,AQ,<- ET L i];exact jt _ _ _ _ h0 h1
theorem na{L:List Int}(hL:L.length=12)(h:D7 L=I):qH (GD L)/\tt (GD L)=L:=by
 have e:=qU hL h;exact⟨⟨JS _ (by rw[Zb];decide),by rw[e];exact h,by rw[e]⟩,e⟩
theorem eX:∀ x∈Yx,0<=x/\x<=255:=by decide
theorem WP(p0 p1 p2 p3 p4 p5 p6 p7 p8 p9 q0 q1 q2 q3 q4 q5 q6 q7 q8 q9:Int)(w:Ah):
 (Op.equalIn 9999 78 (BD #[Y H p0,Y H p1,Y H p2,Y H p3,Y H p4,Y H p5,Y H p6,Y H p7,Y H p8,Y H p9]) (BD #[Y H q0,Y H q1,Y H q2,Y H q3,Y H q4,Y H q5,Y H q6,Y H q7,Y H q8,Y H q9])).run Ae w
   =.ok (decide ([p0,p1,p2,p3,p4,p5,p6,p7,p8,p9]=[q0,q1,q2,q3,q4,q5,q6,q7,q8,q9])) w:=by
 have u3:=Tryz.underlying3;have a3:=Tryz.isAgg3;have z3:=Tryz.sizeOf3;rw[show(9999:Nat)=9998+1 from rfl,Op.equalIn];simp only[DE,C2 Tryz.underlying78,Result.andThen_ok];simp only[Std.Legacy.Range.forIn_eq_forIn_range',Std.Legacy.Range.size,Nat.sub_zero,Nat.add_sub_cancel,Nat.div_one,List.range'_succ,List.range'_zero,List.forIn_cons,List.forIn_nil]
 go_simp
 by_cases e0:p0=q0
 case neg=>(rw [AE e0,AG e0];rfl)
 rw[AC e0,AF e0,AP];by_cases e1:p1=q1
 case neg=>(rw [AE e1,AG e1];rfl)
 rw[AC e1,AF e1,AP];by_cases e2:p2=q2
 case neg=>(rw [AE e2,AG e2];rfl)
 rw[AC e2,AF e2,AP];by_cases e3:p3=q3
 case neg=>(rw [AE e3,AG e3];rfl)
 rw[AC e3,AF e3,AP];by_cases e4:p4=q4
 case neg=>(rw [AE e4,AG e4];rfl)
 rw[AC e4,AF e4,AP];by_cases e5:p5=q5
 case neg=>(rw [AE e5,AG e5];rfl)
 rw[AC e5,AF e5,AP];by_cases e6:p6=q6
 case neg=>(rw [AE e6,AG e6];rfl)
 rw[AC e6,AF e6,AP];by_cases e7:p7=q7
 case neg=>(rw [AE e7,AG e7];rfl)
 rw[AC e7,AF e7,AP];by_cases e8:p8=q8
 case neg=>(rw [AE e8,AG e8];rfl)
 rw[AC e8,AF e8,AP];by_cases e9:p9=q9
 . rw[AC e9,AF e9]
 . rw[AE e9,AG e9]
theorem j7(kp lp sp p0 p1 p2 p3 p4 p5 p6 p7 p8 p9 mp kq lq sq q0 q1 q2 q3 q4 q5 q6 q7 q8 q9 mq:Int)(w:Ah):
 (Op.equalIn 10000 80 (BD #[Y H kp,Y H lp,Y H sp,Y H p0,Y H p1,Y H p2,Y H p3,Y H p4,Y H p5,Y H p6,Y H p7,Y H p8,Y H p9,Y H mp]) (BD #[Y H kq,Y H lq,Y H sq,Y H q0,Y H q1,Y H q2,Y H q3,Y H q4,Y H q5,Y H q6,Y H q7,Y H q8,Y H q9,Y H mq])).run Ae w
   =.ok (decide ([kp,lp,sp,p0,p1,p2,p3,p4,p5,p6,p7,p8,p9,mp]=[kq,lq,sq,q0,q1,q2,q3,q4,q5,q6,q7,q8,q9,mq])) w:=by
 have hq:=WP p0 p1 p2 p3 p4 p5 p6 p7 p8 p9 q0 q1 q2 q3 q4 q5 q6 q7 q8 q9;have u3:=Tryz.underlying3;have a3:=Tryz.isAgg3;have z3:=Tryz.sizeOf3
 go_simp
 by_cases e:kp=kq
 case neg=>(rw [AE e,AG e];rfl)
 rw[AC e,AF e];simp only[AP];clear e;by_cases e:lp=lq
 case neg=>(rw [AE e,AG e];rfl)
 rw[AC e,AF e];simp only[AP];clear e;by_cases e:sp=sq
 case neg=>(rw [AE e,AG e];rfl)
 rw[AC e,AF e];simp only[AP];clear e;by_cases e:p0=q0
 case neg=>(rw [AG e];rfl)
 rw[AF e];simp only[AP];clear e;by_cases e:p1=q1
 case neg=>(rw [AG e];rfl)
 rw[AF e];simp only[AP];clear e;by_cases e:p2=q2
 case neg=>(rw [AG e];rfl)
 rw[AF e];simp only[AP];clear e;by_cases e:p3=q3
 case neg=>(rw [AG e];rfl)
 rw[AF e];simp only[AP];clear e;by_cases e:p4=q4
 case neg=>(rw [AG e];rfl)
 rw[AF e];simp only[AP];clear e;by_cases e:p5=q5
 case neg=>(rw [AG e];rfl)
 rw[AF e];simp only[AP];clear e;by_cases e:p6=q6
 case neg=>(rw [AG e];rfl)
 rw[AF e];simp only[AP];clear e;by_cases e:p7=q7
 case neg=>(rw [AG e];rfl)
 rw[AF e];simp only[AP];clear e;by_cases e:p8=q8
 case neg=>(rw [AG e];rfl)
 rw[AF e];simp only[AP];clear e;by_cases e:p9=q9
 case neg=>(rw [AG e];rfl)
 rw[AF e];simp only[AP];clear e;by_cases e:mp=mq
 . rw[AC e,AF e];rfl
 . rw[AE e,AG e];rfl
theorem tl(L M:List Int)(hL:L.length=14)(hM:M.length=14)(w:Ah):(Op.equalIn 10000 80 (BD (iC L).toArray) (BD (iC M).toArray)).run Ae w=.ok (decide (L=M)) w:=by
 match L,hL,M,hM with
 |[kp,lp,sp,p0,p1,p2,p3,p4,p5,p6,p7,p8,p9,mp],_,[kq,lq,sq,q0,q1,q2,q3,q4,q5,q6,q7,q8,q9,mq],_=>exact j7 kp lp sp p0 p1 p2 p3 p4 p5 p6 p7 p8 p9 mp kq lq sq q0 q1 q2 q3 q4 q5 q6 q7 q8 q9 mq w
theorem Uv{ops:Array BS}{rest:List BS}{o:BS}{a:Act}{w:Ah}{Q:Exit->Act->Ah->Prop}(Dn:o.guard=V)(x y:Operand)(ho:o.op=.binOp .eql 80 x y 80)
 (L M:List Int) (hL:L.length=14) (hM:M.length=14) (hx:a.eval x=BD (iC L).toArray) (hy:a.eval y=BD (iC M).toArray)
 (h:Cn Ae ops Q rest (a.put o.dst (A1 (decide (L=M)))) w):Cn Ae ops Q (o :: rest) a w:=by
 refine CM Dn fun K hK=>?_
 have hg:Ae.eqGuardType Ae.depth 80=AI:=by kernel_rfl
 unfold BS.wp execOp;simp only[ho,hx,hy,DE,run_eqGuard_agg w _ _ _ _ _ _ hg,Result.andThen_ok,run_eql_struct,tl L M hL hM];exact hK _ _ h
theorem fd(kp lp sp p0 p1 p2 p3 p4 p5 p6 p7 p8 p9 mp kq lq sq q0 q1 q2 q3 q4 q5 q6 q7 q8 q9 mq:Int)(w:Ah):
 (Op.equalIn 10000 121 (BD #[Y H kp,Y H lp,Y H sp,Y H p0,Y H p1,Y H p2,Y H p3,Y H p4,Y H p5,Y H p6,Y H p7,Y H p8,Y H p9,Y H mp]) (BD #[Y H kq,Y H lq,Y H sq,Y H q0,Y H q1,Y H q2,Y H q3,Y H q4,Y H q5,Y H q6,Y H q7,Y H q8,Y H q9,Y H mq])).run Ae w
   =.ok (decide ([kp,lp,sp,p0,p1,p2,p3,p4,p5,p6,p7,p8,p9,mp]=[kq,lq,sq,q0,q1,q2,q3,q4,q5,q6,q7,q8,q9,mq])) w:=by
 have hq:=WP p0 p1 p2 p3 p4 p5 p6 p7 p8 p9 q0 q1 q2 q3 q4 q5 q6 q7 q8 q9;have u3:=Tryz.underlying3;have a3:=Tryz.isAgg3;have z3:=Tryz.sizeOf3
 go_simp
 by_cases e:kp=kq
 case neg=>(rw [AE e,AG e];rfl)
 rw[AC e,AF e];simp only[AP];clear e;by_cases e:lp=lq
 case neg=>(rw [AE e,AG e];rfl)
 rw[AC e,AF e];simp only[AP];clear e;by_cases e:sp=sq
 case neg=>(rw [AE e,AG e];rfl)
 rw[AC e,AF e];simp only[AP];clear e;by_cases e:p0=q0
 case neg=>(rw [AG e];rfl)
 rw[AF e];simp only[AP];clear e;by_cases e:p1=q1
 case neg=>(rw [AG e];rfl)
 rw[AF e];simp only[AP];clear e;by_cases e:p2=q2
 case neg=>(rw [AG e];rfl)
 rw[AF e];simp only[AP];clear e;by_cases e:p3=q3
 case neg=>(rw [AG e];rfl)
 rw[AF e];simp only[AP];clear e;by_cases e:p4=q4
 case neg=>(rw [AG e];rfl)
 rw[AF e];simp only[AP];clear e;by_cases e:p5=q5
 case neg=>(rw [AG e];rfl)
 rw[AF e];simp only[AP];clear e;by_cases e:p6=q6
 case neg=>(rw [AG e];rfl)
 rw[AF e];simp only[AP];clear e;by_cases e:p7=q7
 case neg=>(rw [AG e];rfl)
 rw[AF e];simp only[AP];clear e;by_cases e:p8=q8
 case neg=>(rw [AG e];rfl)
 rw[AF e];simp only[AP];clear e;by_cases e:p9=q9
 case neg=>(rw [AG e];rfl)
 rw[AF e];simp only[AP];clear e;by_cases e:mp=mq
 . rw[AC e,AF e];rfl
 . rw[AE e,AG e];rfl
theorem qP(L M:List Int)(hL:L.length=14)(hM:M.length=14)(w:Ah):(Op.equalIn 10000 121 (BD (iC L).toArray) (BD (iC M).toArray)).run Ae w=.ok (decide (L=M)) w:=by
 match L,hL,M,hM with
 |[kp,lp,sp,p0,p1,p2,p3,p4,p5,p6,p7,p8,p9,mp],_,[kq,lq,sq,q0,q1,q2,q3,q4,q5,q6,q7,q8,q9,mq],_=>exact fd kp lp sp p0 p1 p2 p3 p4 p5 p6 p7 p8 p9 mp kq lq sq q0 q1 q2 q3 q4 q5 q6 q7 q8 q9 mq w
theorem SF{ops:Array BS}{rest:List BS}{o:BS}{a:Act}{w:Ah}{Q:Exit->Act->Ah->Prop}(Dn:o.guard=V)(x y:Operand)(ho:o.op=.binOp .eql 121 x y 121)
 (L M:List Int) (hL:L.length=14) (hM:M.length=14) (hx:a.eval x=BD (iC L).toArray) (hy:a.eval y=BD (iC M).toArray)
 (h:Cn Ae ops Q rest (a.put o.dst (A1 (decide (L=M)))) w):Cn Ae ops Q (o :: rest) a w:=by
 refine CM Dn fun K hK=>?_
 have hg:Ae.eqGuardType Ae.depth 121=AI:=by kernel_rfl
 unfold BS.wp execOp;simp only[ho,hx,hy,DE,run_eqGuard_agg w _ _ _ _ _ _ hg,Result.andThen_ok,run_eql_struct,qP L M hL hM];exact hK _ _ h
def gK(kd:Int):Int:=if kd=3 then 200 else 35328
def zeroI:List Int:=[0,0,0,0,0,0,0,0,0,0,0,0,0,0]
def Nz(kd ln sz mp:Int)(D:List Int):Bool:=decide (1<=kd/\kd<=3) && (decide (0<=ln/\ln<=200) && (decide (0<=sz/\sz<=gK kd) && (FP D && UZ mp)))
def El(L:List Int):Bool:=if L.getD 0 0=0 then decide (L=zeroI) else Nz (L.getD 0 0) (L.getD 1 0) (L.getD 2 0) (L.getD 13 0) ((L.drop 3).take 10)
theorem Uk(kd:Int)(h:1<=kd/\kd<=3)(w:Ah):AA Ae 121 #[Y H kd] w fun e w'=>e=Ag (AO #[Y H (gK kd),A1 I])/\w=w':=by
 have:kd=1\/kd=2\/kd=3:=by omega
 rcases this with rfl|rfl|rfl
 all_goals
  clear h;go_enter Tryz.func121,Tryz.ntmps121;go_wp2;go_ret2;exact⟨rfl,rfl⟩
theorem Wv(kd:Int)(h:¬ (1<=kd/\kd<=3))(w:Ah):AA Ae 121 #[Y H kd] w fun e w'=>e=Ag (AO #[Y H 0,A1 AI])/\w=w':=by
 have h1:(kd==1)=AI:=by simp;omega
 have h2:(kd==2)=AI:=by simp;omega
 have h3:(kd==3)=AI:=by simp;omega
 clear h;go_enter Tryz.func121,Tryz.ntmps121;go_wp2;go_ret2;exact⟨rfl,rfl⟩
theorem ZT(kd ln sz d0 d1 d2 d3 d4 d5 d6 d7 d8 d9 mp:Int)(h:kd=0)(w:Ah):AA Ae 82 #[BD #[Y H kd,Y H ln,Y H sz,Y H d0,Y H d1,Y H d2,Y H d3,Y H d4,Y H d5,Y H d6,Y H d7,Y H d8,Y H d9,Y H mp]] w fun e w'=>e=Ag (A1 (decide ([kd,ln,sz,d0,d1,d2,d3,d4,d5,d6,d7,d8,d9,mp]=zeroI)))/\At w.heap.size w w':=by
 have hb:=Ay w (Ar #[Y H kd,Y H ln,Y H sz,Y H d0,Y H d1,Y H d2,Y H d3,Y H d4,Y H d5,Y H d6,Y H d7,Y H d8,Y H d9,Y H mp] 80);have hr:=Aw w (Ar #[Y H kd,Y H ln,Y H sz,Y H d0,Y H d1,Y H d2,Y H d3,Y H d4,Y H d5,Y H d6,Y H d7,Y H d8,Y H d9,Y H mp] 80);have Pb:(w.alloc (Ar #[Y H kd,Y H ln,Y H sz,Y H d0,Y H d1,Y H d2,Y H d3,Y H d4,Y H d5,Y H d6,Y H d7,Y H d8,Y H d9,Y H mp] 80)).rangeAt w.heap.size 0 (iC [kd,ln,sz,d0,d1,d2,d3,d4,d5,d6,d7,d8,d9,mp]):=FN hr;have HRG:=vJ Pb;have u1:=Tryz.underlying80;clear hr Pb;have hk:(kd==0)=I:=by simp[h]
 clear h;go_enter Tryz.func82,Tryz.ntmps82
 go_wp2_with (first
  |(with_reducible refine BK rfl 80 (.tmp 1) rfl w.heap.size 0 rfl [kd,ln,sz,d0,d1,d2,d3,d4,d5,d6,d7,d8,d9,mp] _ HRG.out u1 rfl rfl ?_)
  |(with_reducible refine Uv rfl (.tmp 8) (.tmp 9) rfl [kd,ln,sz,d0,d1,d2,d3,d4,d5,d6,d7,d8,d9,mp] zeroI rfl rfl rfl rfl ?_))
 go_ret;exact⟨rfl,hb⟩
theorem PO(W:Ah)(a:Addr):(Instr.sliceAt 78 (Am (Ai a)) V V V).run Ae W=.ok (E (Ai a) 10 10) W:=by
 obtain⟨i,h2,h3,h4,h5⟩:=By Uy;have l10:Ae.arrayLen 78=10:=by kernel_rfl
 have e10:Ae.elem 78=3:=by kernel_rfl
 obtain⟨a1,a2,a3⟩:=a;simp[Instr.sliceAt,C2 Tryz.underlying78,sizeOf,typeInfo,h2,Addr.add,Instr.sureAddr,Instr.sliceBounds]
theorem Yk(kd ln sz d0 d1 d2 d3 d4 d5 d6 d7 d8 d9 mp:Int)(h0:kd≠0)(h:¬ (1<=kd/\kd<=3))(w:Ah):AA Ae 82 #[BD #[Y H kd,Y H ln,Y H sz,Y H d0,Y H d1,Y H d2,Y H d3,Y H d4,Y H d5,Y H d6,Y H d7,Y H d8,Y H d9,Y H mp]] w fun e w'=>e=Ag (A1 AI)/\At w.heap.size w w':=by
 have hb:=Ay w (Ar #[Y H kd,Y H ln,Y H sz,Y H d0,Y H d1,Y H d2,Y H d3,Y H d4,Y H d5,Y H d6,Y H d7,Y H d8,Y H d9,Y H mp] 80);have KL:=vJ (Wv kd h);have hk:(kd==0)=AI:=by simp[h0]
 clear h h0;go_enter Tryz.func82,Tryz.ntmps82
 go_wp2_with (first
  |(go_at_call 121;with_reducible refine(KL.out _).mono ?_;rintro e w' ⟨rfl,rfl⟩))
 go_ret;exact⟨rfl,hb⟩
theorem ms(kd ln sz d0 d1 d2 d3 d4 d5 d6 d7 d8 d9 mp:Int)(h:1<=kd/\kd<=3)(w:Ah):AA Ae 82 #[BD #[Y H kd,Y H ln,Y H sz,Y H d0,Y H d1,Y H d2,Y H d3,Y H d4,Y H d5,Y H d6,Y H d7,Y H d8,Y H d9,Y H mp]] w fun e w'=>e=Ag (A1 (Nz kd ln sz mp [d0,d1,d2,d3,d4,d5,d6,d7,d8,d9]))/\At w.heap.size w w':=by
 have hb:=Ay w (Ar #[Y H kd,Y H ln,Y H sz,Y H d0,Y H d1,Y H d2,Y H d3,Y H d4,Y H d5,Y H d6,Y H d7,Y H d8,Y H d9,Y H mp] 80);have hr:(w.alloc (Ar #[Y H kd,Y H ln,Y H sz,Y H d0,Y H d1,Y H d2,Y H d3,Y H d4,Y H d5,Y H d6,Y H d7,Y H d8,Y H d9,Y H mp] 80)).heap[w.heap.size]? =Ai (iO [kd,ln,sz,d0,d1,d2,d3,d4,d5,d6,d7,d8,d9,mp] 80):=Aw w _;have KL:=vJ (Uk kd h);have hk:(kd==0)=AI:=by simp;omega
 have hsl:=PO (w.alloc (Ar #[Y H kd,Y H ln,Y H sz,Y H d0,Y H d1,Y H d2,Y H d3,Y H d4,Y H d5,Y H d6,Y H d7,Y H d8,Y H d9,Y H mp] 80)) ⟨w.heap.size,3,V⟩;unfold Nz;rw[AF h,AP];obtain⟨M,hM⟩:=nm (gK kd);rw[<- hM] at KL |-
 clear hM h;obtain⟨B1,h1⟩:∃ B,decide (0<=ln/\ln<=200)=B:=⟨_,rfl⟩;obtain⟨B2,h2⟩:∃ B,decide (0<=sz/\sz<=M)=B:=⟨_,rfl⟩;obtain⟨B3,h3⟩:∃ B,FP [d0,d1,d2,d3,d4,d5,d6,d7,d8,d9]=B:=⟨_,rfl⟩;obtain⟨B4,h4⟩:∃ B,UZ mp=B:=⟨_,rfl⟩;rw[h1,h2,h3,h4];have hd:ISl (w.alloc (Ar #[Y H kd,Y H ln,Y H sz,Y H d0,Y H d1,Y H d2,Y H d3,Y H d4,Y H d5,Y H d6,Y H d7,Y H d8,Y H d9,Y H mp] 80)) (E (Ai ⟨w.heap.size,3,V⟩) 10 10) [d0,d1,d2,d3,d4,d5,d6,d7,d8,d9]:=Ba ⟨_,_,rfl,fun j hj=>by
  refine⟨by simp,rfl,?_⟩;have hj:j<10:=hj;have hx:=GC hr (3+j) (by simp;omega);show(w.alloc _).cell? ⟨w.heap.size,3+j,V⟩=_
  rw[hx,show 3+j=j+3 by omega];have:j=0\/j=1\/j=2\/j=3\/j=4\/j=5\/j=6\/j=7\/j=8\/j=9:=by omega
  rcases this with rfl|rfl|rfl|rfl|rfl|rfl|rfl|rfl|rfl|rfl <;> rfl⟩
 have K1:=vJ (MN ln 200 B1 h1);have K2:=vJ (MN sz M B2 h2);have KD:=vJ (IY hd (by simp) B3 h3);have K4:=vJ (Kn mp B4 h4);clear h1 h2 h3 h4 hd hr;cases B1
 case false=>
  go_enter Tryz.func82,Tryz.ntmps82
  go_wp2_with (first
   |(go_at_call 121;with_reducible refine(KL.out _).mono ?_;rintro e w' ⟨rfl,rfl⟩)
   |(go_at_call 122;with_reducible refine(K1.out _).mono ?_;rintro e w' ⟨rfl,rfl⟩)
   |(go_at_call 122;with_reducible refine(K2.out _).mono ?_;rintro e w' ⟨rfl,rfl⟩)
   |(go_at_call 123;refine KD.out.mono ?_;rintro e w' ⟨rfl,rfl⟩)
   |(go_at_call 124;with_reducible refine(K4.out _).mono ?_;rintro e w' ⟨rfl,rfl⟩))
  go_ret;exact⟨rfl,hb⟩
 cases B2
 case false=>
  go_enter Tryz.func82,Tryz.ntmps82
  go_wp2_with (first
   |(go_at_call 121;with_reducible refine(KL.out _).mono ?_;rintro e w' ⟨rfl,rfl⟩)
   |(go_at_call 122;with_reducible refine(K1.out _).mono ?_;rintro e w' ⟨rfl,rfl⟩)
   |(go_at_call 122;with_reducible refine(K2.out _).mono ?_;rintro e w' ⟨rfl,rfl⟩)
   |(go_at_call 123;refine KD.out.mono ?_;rintro e w' ⟨rfl,rfl⟩)
   |(go_at_call 124;with_reducible refine(K4.out _).mono ?_;rintro e w' ⟨rfl,rfl⟩))
  go_ret;exact⟨rfl,hb⟩
 cases B3
 case false=>
  go_enter Tryz.func82,Tryz.ntmps82
  go_wp2_with (first
   |(go_at_call 121;with_reducible refine(KL.out _).mono ?_;rintro e w' ⟨rfl,rfl⟩)
   |(go_at_call 122;with_reducible refine(K1.out _).mono ?_;rintro e w' ⟨rfl,rfl⟩)
   |(go_at_call 122;with_reducible refine(K2.out _).mono ?_;rintro e w' ⟨rfl,rfl⟩)
   |(go_at_call 123;refine KD.out.mono ?_;rintro e w' ⟨rfl,rfl⟩)
   |(go_at_call 124;with_reducible refine(K4.out _).mono ?_;rintro e w' ⟨rfl,rfl⟩))
  go_ret;exact⟨rfl,hb⟩
 cases B4
 case false=>
  go_enter Tryz.func82,Tryz.ntmps82
  go_wp2_with (first
   |(go_at_call 121;with_reducible refine(KL.out _).mono ?_;rintro e w' ⟨rfl,rfl⟩)
   |(go_at_call 122;with_reducible refine(K1.out _).mono ?_;rintro e w' ⟨rfl,rfl⟩)
   |(go_at_call 122;with_reducible refine(K2.out _).mono ?_;rintro e w' ⟨rfl,rfl⟩)
   |(go_at_call 123;refine KD.out.mono ?_;rintro e w' ⟨rfl,rfl⟩)
   |(go_at_call 124;with_reducible refine(K4.out _).mono ?_;rintro e w' ⟨rfl,rfl⟩))
  go_ret;exact⟨rfl,hb⟩
 case true=>
  go_enter Tryz.func82,Tryz.ntmps82
  go_wp2_with (first
   |(go_at_call 121;with_reducible refine(KL.out _).mono ?_;rintro e w' ⟨rfl,rfl⟩)
   |(go_at_call 122;with_reducible refine(K1.out _).mono ?_;rintro e w' ⟨rfl,rfl⟩)
   |(go_at_call 122;with_reducible refine(K2.out _).mono ?_;rintro e w' ⟨rfl,rfl⟩)
   |(go_at_call 123;refine KD.out.mono ?_;rintro e w' ⟨rfl,rfl⟩)
   |(go_at_call 124;with_reducible refine(K4.out _).mono ?_;rintro e w' ⟨rfl,rfl⟩))
  go_ret;exact⟨rfl,hb⟩
theorem kj{L:List Int}(hL:L.length=14)(w:Ah):AA Ae 82 #[BD (iC L).toArray] w fun e w'=>e=Ag (A1 (El L))/\At w.heap.size w w':=by
 match L,hL with
 |[kd,ln,sz,d0,d1,d2,d3,d4,d5,d6,d7,d8,d9,mp],_=>
  show AA Ae 82 #[BD #[Y H kd,Y H ln,Y H sz,Y H d0,Y H d1,Y H d2,Y H d3,Y H d4,Y H d5,Y H d6,Y H d7,Y H d8,Y H d9,Y H mp]] w fun e w'=>e=Ag (A1 (if kd=0 then decide ([kd,ln,sz,d0,d1,d2,d3,d4,d5,d6,d7,d8,d9,mp]=zeroI) else Nz kd ln sz mp [d0,d1,d2,d3,d4,d5,d6,d7,d8,d9]))/\At w.heap.size w w'
  by_cases h0:kd=0
  . rw[AC h0];exact ZT kd ln sz d0 d1 d2 d3 d4 d5 d6 d7 d8 d9 mp h0 w
  . rw[AE h0]
    by_cases h:1<=kd/\kd<=3
    . exact ms kd ln sz d0 d1 d2 d3 d4 d5 d6 d7 d8 d9 mp h w
    . have e:Nz kd ln sz mp [d0,d1,d2,d3,d4,d5,d6,d7,d8,d9]=AI:=by unfold Nz;rw[AG h];rfl
      rw[e];exact Yk kd ln sz d0 d1 d2 d3 d4 d5 d6 d7 d8 d9 mp h0 h w
theorem Wy{L:List Int}(hL:L.length=14)(B:Bool)(h:El L=B)(w:Ah):AA Ae 82 #[BD (iC L).toArray] w fun e w'=>e=Ag (A1 B)/\At w.heap.size w w':=by
 rw[<- h];exact kj hL w
def w7(j:Nat):Nat:=if j<2 then 1 else if j=2 then 4 else 2
def p7:Nat->Nat
 |0=>0
 |j+1=>p7 j+w7 j
theorem kT(j:Nat):1<=w7 j/\w7 j<=4:=by unfold w7;split <;> (try split) <;> omega
theorem ON(j:Nat):w7 (3+j)=2:=by unfold w7;rw[AE (by omega),AE (by omega)]
theorem Yi:∀ j,p7 (3+j)=6+2*j
 |0=>rfl
 |j+1=>by
  have:=Yi j;show p7 (3+j)+w7 (3+j)=_
  rw[this,ON];omega
theorem pz(j:Nat)(hj:j<14):p7 j+w7 j<=28:=by
 by_cases h:j<3
 . have:j=0\/j=1\/j=2:=by omega
   rcases this with rfl|rfl|rfl <;> decide
 . obtain⟨k,rfl⟩:∃ k,j=3+k:=⟨j-3,by omega⟩
   rw[Yi,ON];omega
theorem qF:p7 14=28:=rfl
def Gn(L:List Int):Nat->List Int
 |0=>[]
 |j+1=>Gn L j ++ BN (L.getD j 0) (w7 j)
theorem EO(L:List Int):∀ j,(Gn L j).length=p7 j
 |0=>rfl
 |j+1=>by rw[Gn,Ax,EO L j,Bc];rfl
def NZ(L:List Int):List Int:=Gn L 14 ++ AD 4 0
theorem Lz(L:List Int):(NZ L).length=32:=by rw[NZ,Ax,EO,A4];rfl
theorem Yt(L:List Int)(i:Nat):∀ j,i<j->∃ B,Gn L j=Gn L i ++ (BN (L.getD i 0) (w7 i) ++ B):=by
 intro j;induction j with
 |zero=>intro h;omega
 |succ j ih=>
  intro h;by_cases e:i=j
  . subst e;exact⟨[],by rw[Gn];simp⟩
  . obtain⟨B,hB⟩:=ih (by omega)
    exact⟨B ++ BN (L.getD j 0) (w7 j),by rw[Gn,hB];simp⟩
theorem Iv{L:List Int}(hL:L.length=14)(h:El L=I)(j:Nat)(hj:j<14):0<=L.getD j 0/\L.getD j 0<256 ^ w7 j:=by
 unfold El at h;split at h
 . have e:=A7 h
   have h0:L.getD j 0=0:=by
    rw[e]
    match j,hj with
    |0,_|1,_|2,_|3,_|4,_|5,_|6,_|7,_|8,_|9,_|10,_|11,_|12,_|13,_=>rfl
   have:=In (w7 j);rw[h0];omega
 . unfold Nz at h
   simp only[AY,Bd] at h;obtain⟨h1,h2,h3,h4,h5⟩:=h;have hm:gK (L.getD 0 0)<=35328:=by unfold gK;split <;> omega
   by_cases e0:j=0
   . subst e0;rw[show w7 0=1 from rfl,Int.pow_succ,Int.pow_zero];omega
   by_cases e1:j=1
   . subst e1;rw[show w7 1=1 from rfl,Int.pow_succ,Int.pow_zero];omega
   by_cases e2:j=2
   . subst e2;rw[show w7 2=4 from rfl,show(256:Int) ^ 4=4294967296 from rfl];omega
   obtain⟨k,rfl⟩:∃ k,j=3+k:=⟨j-3,by omega⟩;rw[ON,show(256:Int) ^ 2=65536 from rfl];by_cases ek:k=10
   . subst ek
     have:=inB_iff.1 h5;show 0<=L.getD 13 0/\L.getD 13 0<65536
     omega
   . have hd:=inB_iff.1 ((Ft _).1 h4 k (by simp[hL];omega))
     have e:((L.drop 3).take 10).getD k 0=L.getD (3+k) 0:=by
      simp only[An,AZ,Bp];rw[AC (by omega)]
     rw[e] at hd;omega
def jR(c:List Int):List Int:=(Co 14).map fun j=>Cc c (p7 j) (w7 j)
theorem J0(c:List Int):(jR c).length=14:=by simp[jR]
theorem mH(c:List Int)(j:Nat)(hj:j<14):(jR c).getD j 0=Cc c (p7 j) (w7 j):=by
 simp[jR,hj]
theorem qk{L M:List Int}(h:L.length=14)(h':M.length=14)(e:∀ j,j<14->L.getD j 0=M.getD j 0):L=M:=by
 apply Bi (by rw[h,h']);intro i h1 h2;have:=e i (by omega)
 simpa [h1,h2] using this
theorem mX{L:List Int}(hL:L.length=14)(h:El L=I):jR (NZ L)=L:=by
 refine qk (J0 _) hL fun j hj=>?_
 rw[mH _ _ hj,NZ];obtain⟨B,hB⟩:=Yt L j 14 hj;obtain⟨h0,h1⟩:=Iv hL h j hj;rw[hB,AQ,AQ,<- EO L j];exact ct _ _ _ _ h0 h1
def Hm(c:List Int)(j:Nat):List Int:=(Co 14).map fun i=>if i<j then Cc c (p7 i) (w7 i) else 0
theorem Ht(c:List Int)(j:Nat):(Hm c j).length=14:=by simp[Hm]
theorem fQ(c:List Int)(j:Nat):(Hm c j).set j (Cc c (p7 j) (w7 j))=Hm c (j+1):=by
 apply Bi (by rw[AJ,Ht,Ht]);intro i h1 h2;simp only[Hm,Cz,Ct,Cg];by_cases e:j=i
 . subst e;rw[AC rfl,AC (by omega)]
 . rw[AE e]
   by_cases h:i<j
   . rw[AC h,AC (by omega)]
   . rw[AE h,AE (by omega)]
theorem af(c:List Int):Hm c 14=jR c:=by
 unfold Hm jR;apply CN;intro i hi;rw[AC (Bo.1 hi)]
theorem ZB(c:List Int):Hm c 0=zeroI:=by
 unfold Hm;rw[CN (g:=fun _=>(0:Int)) (fun i _=>AE (A8 _))];rfl
theorem ta{c:List Int}(hb:FJ c)(j:Nat):0<=Cc c (p7 j) (w7 j)/\Cc c (p7 j) (w7 j)<4294967296:=by
 have h:=D4 (CZ hb) (p7 j) (w7 j);have:=F8 (kT j).2;have e:(256:Int) ^ 4=4294967296:=rfl;omega
def Ho(O:List (List Int)):Bool:=decide (O.length=8) && O.all El
def Gc(O:List (List Int)):Prop:=∀ x∈O,x.length=14
theorem Hx{O:List (List Int)}(h:Gc O)(k:Nat)(hk:k<O.length):(O.getD k []).length=14:=by
 have:O.getD k []=O[k]:=by simp[hk]
 rw[this];exact h _ (Bf hk)
theorem UT(O:List (List Int)):O.all El=I ↔ ∀ j,j<O.length->El (O.getD j [])=I:=by
 rw[DJ];constructor
 . intro h j hj
   have:O.getD j []=O[j]:=(by simp[hj]);rw[this];exact h _ (Bf hj)
 . intro h x hx
   obtain⟨j,hj,rfl⟩:=BW hx;have:=h j hj
   simpa [hj] using this
theorem Qx{O:List (List Int)}(h8:O.length=8)(h:∀ j,j<8->El (O.getD j [])=I):Ho O=I:=by
 unfold Ho;rw[AF h8,AP,UT,h8];exact h
theorem bq{O:List (List Int)}{k:Nat}(h8:O.length=8)(hk:k<8)(h:El (O.getD k [])=AI):Ho O=AI:=by
 cases ha:Ho O
 . rfl
 . unfold Ho at ha
   rw[AY] at ha;have:=(UT O).1 ha.2 k (by omega);rw[h] at this;cases this
theorem iW{O:List (List Int)}(h:Ho O=I):O.length=8/\∀ j,j<8->El (O.getD j [])=I:=by
 unfold Ho at h;rw[AY] at h;have h8:=A7 h.1;refine⟨h8,fun j hj=>(UT O).1 h.2 j (by omega)⟩
def E6(O:List (List Int)):Nat->List Int
 |0=>[]
 |k+1=>E6 O k ++ NZ (O.getD k [])
theorem Fv(O:List (List Int)):∀ k,(E6 O k).length=32*k
 |0=>rfl
 |k+1=>by rw[E6,Ax,Fv O k,Lz];omega
def GG(O:List (List Int)):List Int:=E6 O 8
def NJ(l:List Int)(k:Nat):List Int:=(l.drop (32*k)).take 32
theorem T7{l:List Int}(h:l.length=256)(k:Nat)(hk:k<8):(NJ l k).length=32:=by simp[NJ];omega
theorem Wi(O:List (List Int))(i:Nat):∀ j,i<j->∃ B,E6 O j=E6 O i ++ (NZ (O.getD i []) ++ B):=by
 intro j;induction j with
 |zero=>intro h;omega
 |succ j ih=>
  intro h;by_cases e:i=j
  . subst e;exact⟨[],by rw[E6];simp⟩
  . obtain⟨B,hB⟩:=ih (by omega)
    exact⟨B ++ NZ (O.getD j []),by rw[E6,hB];simp⟩
theorem dj(O:List (List Int))(k:Nat)(hk:k<8):NJ (GG O) k=NZ (O.getD k []):=by
 obtain⟨B,hB⟩:=Wi O k 8 hk;unfold NJ GG;rw[hB,<- Fv O k,List.drop_left,<- Lz (O.getD k []),List.take_left]
def tj(l:List Int)(k:Nat):List Int:=jR (NJ l k)
def T9(l:List Int)(n:Nat):List (List Int):=(Co n).map (tj l)
theorem Mx(l:List Int)(n:Nat):(T9 l n).length=n:=by simp[T9]
theorem qL(l:List Int)(n:Nat):Gc (T9 l n):=fun x hx=>by
 obtain⟨j,_,rfl⟩:=Cq.1 hx;exact J0 _
def Fi(l:List Int)(n k:Nat):List (List Int):=(Co n).map fun j=>if j<k then tj l j else zeroI
theorem Gv(l:List Int)(n k:Nat):(Fi l n k).length=n:=by simp[Fi]
theorem Xp(l:List Int)(n k:Nat):(Fi l n k).set k (tj l k)=Fi l n (k+1):=by
 apply Bi (by rw[AJ,Gv,Gv]);intro i h1 h2;simp only[Fi,Cz,Ct,Cg];by_cases e:k=i
 . subst e;rw[AC rfl,AC (by omega)]
 . rw[AE e]
   by_cases h:i<k
   . rw[AC h,AC (by omega)]
   . rw[AE h,AE (by omega)]
theorem UR(l:List Int)(n:Nat):Fi l n 0=AD n zeroI:=by
 rw[List.eq_replicate_iff];refine⟨Gv l n 0,fun x hx=>?_⟩;obtain⟨i,_,rfl⟩:=Cq.1 hx;rw[AE (by omega)]
theorem UB(l:List Int)(n:Nat):Fi l n n=T9 l n:=by
 unfold Fi T9;apply CN;intro i hi;rw[AC (Bo.1 hi)]
theorem YB(l:List Int)(n k:Nat):Gc (Fi l n k):=fun x hx=>by
 obtain⟨j,_,rfl⟩:=Cq.1 hx;split
 . exact J0 _
 . rfl
def qJ(l:List Int):Prop:=l.length=256/\Ho (T9 l 8)=I/\GG (T9 l 8)=l
theorem aS{O:List (List Int)}(hO:Gc O)(h:Ho O=I):T9 (GG O) 8=O:=by
 obtain⟨h8,hf⟩:=iW h;apply Bi (by rw[Mx,h8]);intro i h1 h2;have hi:i<8:=by omega
 have e:O.getD i []=O[i]:=by simp[h2]
 simp only[T9,Ct,Cg,tj];rw[dj O i hi,mX (Hx hO i h2) (hf i hi),e]
theorem jL{O:List (List Int)}(hO:Gc O)(h:Ho O=I):qJ (GG O):=by
 have e:=aS hO h;exact⟨by rw[GG,Fv],by rw[e];exact h,by rw[e]⟩
end
section
open Go.RowKit BM
def J9(N:List (List Int))(t:Nat):List (List Int):=(N.drop (8*t)).take 8
theorem Ip{N:List (List Int)}{t:Nat}(h:N.length=48)(ht:t<6):(J9 N t).length=8:=by
 unfold J9;rw[AK,AU];omega
theorem Rb(N:List (List Int))(t:Nat){j:Nat}(hj:j<8):(J9 N t).getD j []=N.getD (8*t+j) []:=by
 unfold J9;rw[An,AZ,AC hj,Bp,An]
theorem oc(N:List (List Int)){n t:Nat}(x:List Int)(ht:n / 8≠t):J9 (N.set n x) t=J9 N t:=by
 apply List.ext_getElem?;intro i;unfold J9;rw[AZ,AZ];split
 . rw[Bp,Bp,Bw (by omega)]
 . rfl
theorem Us(N:List (List Int))(n:Nat)(x:List Int):J9 (N.set n x) (n / 8)=(J9 N (n / 8)).set (n%8) x:=by
 apply List.ext_getElem?;intro i;unfold J9;rw[AZ];by_cases hi:i<8
 . rw[AC hi,Bp]
   by_cases he:n%8=i
   . have e1:8*(n / 8)+i=n:=by omega
     rw[e1];by_cases hn:n<N.length
     . rw[CB hn,he,CB (by rw[AK,AU];omega)]
     . rw[A5 (by rw[AJ];omega),A5 (by rw[AJ,AK,AU];omega)]
   . rw[Bw (by omega),Bw he,AZ,AC hi,Bp]
 . rw[AE hi,A5]
   rw[AJ,AK];omega
structure NOk (N:List (List Int)):Prop where
 len:N.length=48
 l14:Gc N
 frm:∀ j,j<48->El (N.getD j [])=I
theorem NOk.get{N:List (List Int)}(h:NOk N){j:Nat}(hj:j<48):(N.getD j []).length=14:=Hx h.l14 j (by rw[h.len];exact hj)
theorem NOk.set{N:List (List Int)}(h:NOk N)(n:Nat){x:List Int}(hx:x.length=14)(hf:El x=I):NOk (N.set n x):=by
 have hl:=h.len;refine⟨by rw[AJ];exact hl,fun y hy=>?_,fun j hj=>?_⟩
 . rcases Dr hy with h1|h1
   . exact h.l14 y h1
   . rw[h1];exact hx
 . by_cases e:j=n
   . subst e;rw[An,CB (by omega)];exact hf
   . rw[An,Bw (CR e),<- An];exact h.frm j hj
theorem U4{N:List (List Int)}(h:Gc N)(t:Nat):Gc (J9 N t):=fun x hx=>h x (List.mem_of_mem_drop (Dg hx))
theorem NOk.all{N:List (List Int)}(h:NOk N){t:Nat}(ht:t<6):Gc (J9 N t)/\Ho (J9 N t)=I:=
 ⟨U4 h.l14 t,Qx (Ip h.len ht) fun j hj=>by rw[Rb N t hj];exact h.frm _ (by omega)⟩
def Dj(S:List Int)(t:Nat):Nat:=(num S (6+t)).toNat
structure Tab (G:List (List Int)) (S:List Int) (N:List (List Int)):Prop where
 s12:S.length=12
 sf:D7 S=I
 n:NOk N
 g0:G.getD 0 []=GD S
 g63:G.getD 63 []=GD S
 tb:∀ t,t<6->G.getD (Dj S t) []=GG (J9 N t)
 le:num S 0<=G.length
theorem BE{α:Type}(G:List α){i m:Nat}(x d:α)(h:m≠i):(G.set i x).getD m d=G.getD m d:=by
 rw[An,Bw (CR h),<- An]
theorem Fs{S:List Int}(hf:D7 S=I){t:Nat}(ht:t<6):num S (6+t)=(Dj S t:Int)/\(Dj S t:Int)<num S 0/\num S 0<=768/\CJ (Dj S t:Int)=AI/\Ei (Dj S t)/\Dj S t≠0/\Dj S t≠63:=by
 obtain⟨h1,_,h3⟩:=Ov hf;obtain⟨k,k1,k12,hk⟩:=UX h1;obtain⟨⟨a1,a2⟩,a3,_⟩:=LU h3 t ht;have e:num S (6+t)=(Dj S t:Int):=by unfold Dj;omega
 rw[e] at a1 a2 a3;have hx:=BL a3;refine⟨e,by omega,by omega,a3,?_,by omega,by omega⟩;unfold Ei;omega
theorem iu{S:List Int}(hf:D7 S=I){t s:Nat}(ht:t<6)(hs:s<6)(h:t≠s):Dj S t≠Dj S s:=by
 have h3:=(Ov hf).2.2;have a:=(Fs hf ht).1;have b:=(Fs hf hs).1;intro e;rw[e] at a;rcases Nat.lt_or_gt_of_ne h with hl|hl
 . exact(LU h3 s hs).2.2 t hl (by rw[a,b])
 . exact(LU h3 t ht).2.2 s hl (by rw[a,b])
section
variable {G:List (List Int)}{S:List Int}{N:List (List Int)}
theorem Tab.at(h:Tab G S N){t:Nat}(ht:t<6):Dj S t<G.length:=by
 have:=Fs h.sf ht;have:=h.le;omega
theorem Tab.same(h:Tab G S N){G':List (List Int)}(hl:G'.length=G.length)(he:∀ i,i=0\/i=63\/(∃ t,t<6/\i=Dj S t)->G'.getD i []=G.getD i []):Tab G' S N:=
 ⟨h.s12,h.sf,h.n,by rw[he 0 (AN rfl)];exact h.g0,by rw[he 63 (Ba (AN rfl))];exact h.g63,fun t ht=>by rw[he _ (Ba (Ba ⟨t,ht,rfl⟩))];exact h.tb t ht,by rw[hl];exact h.le⟩
theorem Tab.putI(h:Tab G S N){n:Nat}(hn:n<48){x:List Int}(hx:x.length=14)(hf:El x=I):Tab (G.set (Dj S (n / 8)) (GG (J9 (N.set n x) (n / 8)))) S (N.set n x):=by
 have ht:n / 8<6:=by omega
 have hin:=Fs h.sf ht;have hl:=h.at ht;refine⟨h.s12,h.sf,h.n.set n hx hf,?_,?_,fun t tU=>?_,by rw[AJ];exact h.le⟩
 . rw[BE _ _ _ (CR hin.2.2.2.2.2.1)];exact h.g0
 . rw[BE _ _ _ (CR hin.2.2.2.2.2.2)];exact h.g63
 . by_cases e:t=n / 8
   . subst e;rw[An,CB hl];rfl
   . rw[BE _ _ _ (iu h.sf tU ht e),oc N x (CR e)];exact h.tb t tU
theorem Ks{g:Nat}(hg:g<12):CJ (Ci g:Int)=I/\CJ ((Ci g+1:Nat):Int)=I/\Ci g≠0/\Ci g+1≠63/\Ci g≠63:=by
 unfold Ci CJ;split <;> refine⟨AF (by omega),AF (by omega),by omega,by omega,by omega⟩
theorem Tab.putG(h:Tab G S N){g:Nat}(hg:g<12)(D:List (Int × Int)):Tab (putG G g D) S N:=by
 have hx:=Ks hg;refine h.same (by unfold Go.Proofs.YtdefiimcmecnnaaGreat.putG;rw[AJ,AJ]) fun i hi=>?_
 have h12:i≠Ci g/\i≠Ci g+1:=by
  rcases hi with rfl|rfl| ⟨t,ht,rfl⟩
  . omega
  . omega
  . have hin:=(Fs h.sf ht).2.2.2.1
    constructor
    . intro e;rw[e,hx.1] at hin;cases hin
    . intro e;rw[e,hx.2.1] at hin;cases hin
 unfold Go.Proofs.YtdefiimcmecnnaaGreat.putG;rw[BE _ _ _ h12.1,BE _ _ _ h12.2]
end
theorem Has.other{G:List (List Int)}{O:List (Int × Int)}{k:Nat}(h:Has G O k)(hk:k<=12){i:Nat}(hi:i=0\/i=63\/CJ (i:Int)=AI)(x:List Int):Has (G.set i x) O k:=by
 have hne:∀ g,g<k->Ci g≠i/\Ci g+1≠i:=fun g hg=>by
  have hx:=Ks (show g<12 by omega);rcases hi with rfl|rfl|hi
  . omega
  . omega
  . constructor
    . intro e;rw[<- e,hx.1] at hi;cases hi
    . intro e;rw[<- e,hx.2.1] at hi;cases hi
 exact⟨by rw[AJ];exact h.len,fun g hg=>by rw[BE _ _ _ (hne g hg).1];exact h.ds g hg,fun g hg=>by rw[BE _ _ _ (hne g hg).2];exact h.ow g hg⟩
theorem W7{S:List Int}:(GD S).length=256:=by rw[GD];exact Dt _ (by rw[Zb];decide)
theorem Q6(O:List (List Int)):(GG O).length=256:=Fv O 8
def Ed(kk:Nat):List Int:=[64*(kk:Int),0,0,0,0,0,43,44,45,46,47,48]
def pC:List Int:=[2,1,0,0,0,0,0,0,0,0,0,0,0,0]
def newN:List (List Int):=(AD 48 zeroI).set 1 pC
theorem mS:NOk newN:=by
 refine⟨rfl,?_,?_⟩
 . intro x hx
   rcases Dr hx with h|h
   . rw[BR h];rfl
   . rw[h];rfl
 . decide
theorem RM{kk:Nat}(h1:1<=kk)(h2:kk<=12):D7 (Ed kk)=I:=by
 unfold D7;have e0:num (Ed kk) 0=64*(kk:Int):=rfl;rw[e0,Ux kk h1 h2,AY,AY];have hn:∀ k:Nat,k<6->num (Ed kk) (6+k)=43+(k:Int):=fun k hk=>by
  have Hc:k=0\/k=1\/k=2\/k=3\/k=4\/k=5:=by omega
  rcases Hc with rfl|rfl|rfl|rfl|rfl|rfl <;> rfl
 refine⟨rfl,rfl,(Ji _ 6).2 fun i hi=>?_⟩;unfold Yh;rw[e0,hn i hi];refine⟨by omega,?_,fun k hk=>by rw[hn k (by omega)];omega⟩;unfold CJ;exact AG (by omega)
def T3(G:List (List Int))(c:Nat):Prop:=∀ t,t<c->G.getD (43+t) []=GG (J9 newN t)
theorem T3.zero(G:List (List Int)):T3 G 0:=fun t h=>absurd h (A8 _)
theorem T3.put{G:List (List Int)}{k:Nat}(h:T3 G k)(hl:43+k<G.length){x:List Int}(hx:x=GG (J9 newN k)):T3 (G.set (43+k) x) (k+1):=fun t ht=>by
 by_cases e:t=k
 . subst e;rw[An,CB hl,hx];rfl
 . rw[BE _ _ _ (by omega)];exact h t (by omega)
theorem T3.other{G:List (List Int)}{k:Nat}(h:T3 G k){i:Nat}(hi:i<43\/49<=i)(hk:k<=6)(x:List Int):T3 (G.set i x) k:=fun t ht=>by
 rw[BE _ _ _ (by omega)];exact h t ht
theorem ZG{k:Nat}(h:k<6)(h0:k≠0):AD 8 zeroI=J9 newN k:=by
 have Hc:k=1\/k=2\/k=3\/k=4\/k=5:=by omega
 rcases Hc with rfl|rfl|rfl|rfl|rfl <;> rfl
theorem newT_frm:Ho ((AD 8 zeroI).set 1 pC)=I/\Ho (AD 8 zeroI)=I:=by decide
structure New3 (G:List (List Int)) (kk:Nat):Prop where
 t:T3 G 6
 g0:G.getD 0 []=GD (Ed kk)
 g63:G.getD 63 []=GD (Ed kk)
theorem New3.tab{G:List (List Int)}{kk:Nat}(h:New3 G kk)(h1:1<=kk)(h2:kk<=12)(hl:G.length=64*kk):Tab G (Ed kk) newN:=
 ⟨rfl,RM h1 h2,mS,h.g0,h.g63,fun t ht=>by
   have Hc:t=0\/t=1\/t=2\/t=3\/t=4\/t=5:=(by omega);have:=h.t t ht;rcases Hc with rfl|rfl|rfl|rfl|rfl|rfl <;> exact this,by rw[hl];show 64*(kk:Int)<=_;omega⟩
theorem T3.sup{G:List (List Int)}(h:T3 G 6)(kk:Nat)(hl:63<G.length){x:List Int}(hx:x=GD (Ed kk)):New3 ((G.set 0 x).set 63 x) kk:=by
 refine⟨(h.other (AN (by decide)) (by decide) x).other (Ba (by decide)) (by decide) x,?_,?_⟩
 . rw[BE _ _ _ (by decide),An,CB (by omega),hx];rfl
 . rw[An,CB (by rw[AJ];exact hl),hx];rfl
theorem YJ(n:Int)(w:Ah):AA Ae 216 #[Y H n] w fun e w'=>e=Ag (A1 (decide (0<=n/\n<768)))/\w=w':=by
 by_cases h0:0<=n
 . by_cases h1:n<768
   . rw[AF ⟨h0,h1⟩]
     go_enter Tryz.func216,Tryz.ntmps216;go_wp2;go_ret;exact⟨rfl,rfl⟩
   . rw[AG (fun h=>h1 h.2)]
     go_enter Tryz.func216,Tryz.ntmps216;go_wp2;go_ret;exact⟨rfl,rfl⟩
 . rw[AG (fun h=>h0 h.1)]
   go_enter Tryz.func216,Tryz.ntmps216;go_wp2;go_ret;exact⟨rfl,rfl⟩
theorem Oo(n:Int)(B:Bool)(h:decide (0<=n/\n<768)=B)(w:Ah):AA Ae 216 #[Y H n] w fun e w'=>e=Ag (A1 B)/\w=w':=by
 rw[<- h];exact YJ n w
def Ph(n:Int):Bool:=decide (0<=n/\n<768) && !CJ n
theorem ZI(n:Int)(hm:n<=9223372036854775807)(w:Ah):AA Ae 201 #[Y H n] w fun e w'=>e=Ag (A1 (Ph n))/\w=w':=by
 cases hp:decide (0<=n/\n<768)
 . have e1:Ph n=AI:=by rw[Ph,hp];rfl
   rw[e1];have KP:=vJ (Oo n AI hp);clear hp e1;go_enter Tryz.func201,Tryz.ntmps201;go_wp2_with (go_at_call 216;refine(KP.out _).mono ?_;rintro e w' ⟨rfl,rfl⟩)
   go_ret;exact⟨rfl,rfl⟩
 . obtain⟨F,hF⟩:=nm (CJ n)
   have e1:Ph n=!F:=(by rw[Ph,hp,hF];rfl);rw[e1];have KP:=vJ (Oo n I hp);have KF:=vJ (LW n hm F hF.symm);clear hp e1 hF;cases F
   all_goals
    go_enter Tryz.func201,Tryz.ntmps201
    go_wp2_with (first
     |(go_at_call 216;refine(KP.out _).mono ?_;rintro e w' ⟨rfl,rfl⟩)
     |(go_at_call 217;refine(KF.out _).mono ?_;rintro e w' ⟨rfl,rfl⟩))
    go_ret;exact⟨rfl,rfl⟩
theorem TG(n:Int)(hm:n<=9223372036854775807)(B:Bool)(h:Ph n=B)(w:Ah):AA Ae 201 #[Y H n] w fun e w'=>e=Ag (A1 B)/\w=w':=by
 rw[<- h];exact ZI n hm w
def Pw(i a:Int):Bool:=(i==0) && (a==0)
theorem Yf(i a:Int)(w:Ah):AA Ae 203 #[BD #[Y .u16 i,Y .u16 a]] w fun e w'=>e=Ag (A1 (Pw i a))/\At w.heap.size w w':=by
 have hob:=Ay w (Ar #[Y .u16 i,Y .u16 a] 165);cases h1:(i==0)
 all_goals cases h2:(a==0)
 all_goals
  rw[Pw,h1,h2];go_enter Tryz.func203,Tryz.ntmps203;go_wp2;go_ret;exact⟨by simp,hob⟩
theorem JB(i a:Int)(B:Bool)(h:Pw i a=B)(w:Ah):AA Ae 203 #[BD #[Y .u16 i,Y .u16 a]] w fun e w'=>e=Ag (A1 B)/\At w.heap.size w w':=by
 rw[<- h];exact Yf i a w
theorem TJ{w:Ah}{v:Aq}{O:List (Int × Int)}(hs:OwSl w v O)(g:Int)(hg1:0<=g)(hg2:g<12)(ha:F5 O=I):
 AA Ae 245 #[Y H g,v] w fun e w'=>∃ v,e=Ag (AO #[v,Y H 0])/\OB w' w.heap.size v (GI g (CQ O 64))/\At w.heap.size w w':=by
 have HA:=vJ (fG hs g hg1 hg2 ha);have HE:=vJ (fun(W:Ah) (p r:Nat) (h:BRow W p r (CQ O 64))=>dC h g hg1 hg2 (EZ O 64));obtain⟨ao,cap,rfl⟩:=hs.shape;clear hs ha;go_enter Tryz.func245,Tryz.ntmps245
 go_wp2_with (first
  |(go_at_call 260;refine HA.out.mono ?_;rintro e w1 ⟨p,r,rfl,hrow,hb1⟩;have Mt:=hrow.low (Ay w1 (Ar #[Y H g,Am (Ai ⟨p,0,V⟩)] 311));have hb2:=Ay w1 (Ar #[Y H g,Am (Ai ⟨p,0,V⟩)] 311))
  |(go_at_call 261;refine(HE.out _ p r Mt).mono ?_;rintro e w3 ⟨v,rfl,hob,hb3⟩))
 go_ret2;exact⟨v,rfl,hob.more (by simp;have:=hb1.size;omega),(hb1.trans (hb2.mono hb1.size)).trans (hb3.mono (by simp;have:=hb1.size;omega))⟩
end
section
open Go.RowKit Go.ChangeMaps
def Fj(S:List Int)(n:Int):List Int:=if n∈S then S else S ++ [n]
theorem iKeyed:Maps.Keyed Ae 3:=Maps.int_keyed Tryz.underlying3
theorem iN{n:Int}(h: -9223372036854775808<=n/\n<=9223372036854775807):(Lit.int H n).wf=I:=by
 simp only[Lit.wf,AY,Bd];exact h
theorem nG{n:Int}(h:(Lit.int H n).wf=I):keyOf Ae 3 (.int H n)=Ai (.int H n):=Maps.keyOf_int_mk Tryz.underlying3 h
end
section
open Go.RowKit
structure RSt where
 is:List (List Int)
 call:List (List Int)
 put:List Int
 sts:List (List (List Int))
 wi:Bool
theorem Fu{w w':Ah}{B n size:Nat}{T:TypeId}{v:Aq}{us:List Aq}(h:w.ownsRow B T size v n us)(hk:∀ g,v.ownBlock=Ai g->w'.heap[g]? =w.heap[g]?):w'.ownsRow B T size v n us:=by
 refine⟨h.1,h.2.imp id ?_⟩;rintro⟨g,cap,cur,rfl,hB,hh,r⟩;exact⟨g,cap,cur,rfl,hB,by rw[hk g rfl];exact hh,r⟩
structure XSt where
 base:List (List Int)
 is:List (List Int)
 call:List (List Int)
 put:List Int
 wi:Bool
 dt:Nat
 ds:DS
structure XOk (X:XSt):Prop where
 lst:Lst X.is.length X.ds X.base
 pow:X.ds.dn=AI
 un:X.ds.U.length<=1000
 call:X.wi=I->X.call.length=X.is.length
 dt:X.dt<=37
def RI(n:Nat)(ds:DS)(l:List (List (List Int))):Prop:=ds.U.length<=1000/\ds.F.length=n/\∀ kp,∃ G∈l,Jst n (ds.crash kp).F G
def QI(X:XSt):Int × XSt:=if X.wi=I then (17,X) else (0,{ X with call:=X.is,put:=[],wi:=I })
def kY(X:XSt)(n:Int)(l:List Int):Int × XSt:=
 if X.wi=AI then (17,X) else if n<0\/(X.is.length:Int)<=n\/l.length≠256 then (1,X) else if n ∉ X.put/\37<=X.put.length then (13,X) else (0,{ X with call:=X.call.set n.toNat l,put:=Fj X.put n })
def PJ(Inv:Ah->(Nat->Prop)->Aq->Aq->XSt->Prop)(w:Ah)(P:Nat->Prop)(d p:Aq)(r:Int × XSt)(e:Ending)(w':Ah):Prop:=
 e=Ag (Y H r.1)/\∃ P',Inv w' P' d p r.2/\Chg P P' w w'
def pn(Dead:Ah->(Nat->Prop)->Aq->Aq->DS->Prop)(w:Ah)(P:Nat->Prop)(d p:Aq)(X:XSt)(l:List (List (List Int)))(e:Ending)(w':Ah):Prop:=
 X.ds.fu=I/\e=Ag (Y H 2)/\∃ P' ds',Dead w' P' d p ds'/\Chg P P' w w'/\RI X.is.length ds' l
structure Sto (Inv:Ah->(Nat->Prop)->Aq->Aq->XSt->Prop) (Dead:Ah->(Nat->Prop)->Aq->Aq->DS->Prop):Prop where
 plain:∀ {w P d p X},Inv w P d p X->XOk X
 ptr:∀ {w P d p X},Inv w P d p X->∃ b,p=Am (Ai ⟨b,0,V⟩)
 lt:∀ {w P d p X},Inv w P d p X->∀ k,P k->k<w.heap.size
 keep:∀ {w w' P d p X},Inv w P d p X->w.heap.size<=w'.heap.size->(∀ k,P k->w'.heap[k]? =w.heap[k]?)->Inv w' P d p X
 disk:∀ {w P d p X},Inv w P d p X->∃ Pd,(∀ k,Pd k->P k)/\Dk w Pd d X.ds
 deadLt:∀ {w P d p ds},Dead w P d p ds->∀ k,P k->k<w.heap.size
 deadKeep:∀ {w w' P d p ds},Dead w P d p ds->w.heap.size<=w'.heap.size->(∀ k,P k->w'.heap[k]? =w.heap[k]?)->Dead w' P d p ds
 deadDisk:∀ {w P d p ds},Dead w P d p ds->∃ Pd,(∀ k,Pd k->P k)/\Dk w Pd d ds
 begin:∀ {w P d p X},Inv w P d p X->AA Ae 9 #[p] w (PJ Inv w P d p (QI X))
 put:∀ {w P d p X n v l},Inv w P d p X->BSl w v l-> -9223372036854775808<=n/\n<=9223372036854775807->Ei n.toNat->AA Ae 85 #[p,Y H n,v] w (PJ Inv w P d p (kY X n l))
 getOut:∀ {w P d p X n},Inv w P d p X-> -9223372036854775808<=n/\n<=9223372036854775807->n<0\/(X.is.length:Int)<=n->AA Ae 89 #[p,Y H n] w fun e w'=>e=Ag (AO #[E V 0 0,Y H 1])/\∃ P',Inv w' P' d p X/\Chg P P' w w'
 getIn:∀ {w P d p X} {n:Nat},Inv w P d p X->n<X.is.length->AA Ae 89 #[p,Y H n] w fun e w'=>∃ v l,e=Ag (AO #[v,Y H 0])/\BSl w' v l/\(Ei n->l=(if X.wi=I then X.call else X.is).getD n [])/\∃ P',Inv w' P' d p X/\Chg P P' w w'
 endNo:∀ {w P d p X k},Inv w P d p X->X.wi=AI->AA Ae 18 #[p,A1 k] w (PJ Inv w P d p (17,X))
 endUndo:∀ {w P d p X},Inv w P d p X->X.wi=I->AA Ae 18 #[p,A1 AI] w (PJ Inv w P d p (0,{ X with wi:=AI }))
 endKeep:∀ {w P d p X},Inv w P d p X->X.wi=I->AA Ae 18 #[p,A1 I] w fun e w'=>
  (∃ B dt ds',(B=X.base\/B=X.is\/B=X.call)/\ds'.fu=X.ds.fu/\PJ Inv w P d p (0,{ X with base:=B,is:=X.call,wi:=AI,dt:=dt,ds:=ds' }) e w')\/pn Dead w P d p X [X.base,X.is,X.call] e w'
 opens:∀ {w P d ds n G},Dk w P d ds->64<=n->n<=768->ds.U=[]->ds.dn=AI->Jst n ds.F G->AA Ae 28 #[d] w fun e w'=>
  (∃ p ds' P',e=Ag (AO #[p,Y H 0])/\ds'.fu=ds.fu/\Inv w' P' d p ⟨G,G,[],[],AI,0,ds'⟩/\Chg P P' w w')\/
    (ds.fu=I/\e=Ag (AO #[Am V,Y H 2])/\∃ ds' P',Dk w' P' d ds'/\Chg P P' w w'/\RI n ds' [G])
end
end Go.Proofs.YtdefiimcmecnnaaGreat
