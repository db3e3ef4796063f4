/- What the law rests on. -/
import Derived.RangeFuncCalls
import Derived.RangeFuncLeaves
import Derived.Shelf.Abstract
import Derived.OwnWalkIn
import Derived.TacticsInMore
import Derived.LoopNIn
import Derived.LoopIn
import Derived.Deep.Upon
import Derived.Deep.RegionLawGrows
import Derived.Test.YtdefiimcmecnnaaGreatQC13
open Go.Value renaming int->H,slice->Ak,pointer->Am,tuple->AO,bool->A1,agg->BD
open Go.IntKind renaming i64->I
open Go.Proofs.Tryz renaming prog->Ae
open Option renaming none->Y,some->A
open Go.Ending renaming returned->Ag
open Go renaming World->z,Value->Aq,Calls->AA,Oper->BS,wpList->Cn
open List renaming getElem_cons_zero->Ao,getElem_cons_succ->Ap,getElem_toArray->As,set_cons_succ->Au,set_cons_zero->Av,replicate->AD,nil_append->B0,length_cons->Ch,range->Co
open Go.Obj renaming cells->Ar
open Go.RowKit renaming Below->At
open Bool renaming false->AI,true->AL
open Or renaming inl->AN,inr->Ba
open Go.Act renaming put->AR
open Array renaming replicate->A3
namespace Go.Proofs.YtdefiimcmecnnaaGreat
set_option maxHeartbeats 12000000
set_option linter.unusedVariables false
set_option maxRecDepth 100000
section
open Go.RowKit
attribute [local go_sem] BS.semAt_some
def WN(o:BS):Bool:=match o.op with |.defer _=>AI|_=>AL
theorem iZ{o:BS}(h:WN o=AL):∀ c,o.op≠.defer c:=fun c e=>by unfold WN at h;rw[e] at h;cases h
section
variable {P:Program}{ops:Array BS}{Q:Exit->Act->z->Prop}{a:Act}{w:z}{l n:Nat}
theorem nJ{o:BS}(hd:WN o=AL){next next':Act->z->Prop}(hn:∀ a w,next a w->next' a w)(h:o.wp P a w next Q):o.wpIn (Fence.wide.inRound l) n P a w next' Q:=by
 refine⟨fun _ _=>trivial,?_⟩;rw[BS.semAt_eq _ _ _ (iZ hd)];unfold BS.wp at h;generalize (execOp a.eval o).run P w=r at h |-
 match r,h with
 |.ok (.value v) w',h=>exact hn _ _ h
 |.ok .skip w',h=>exact hn _ _ h
 |.ok (.defer d) w',h=>exact hn _ _ h
 |.ok (.enter f args) w',h=>
  refine⟨fun e=>(by cases e),CallsIn.inRound l (callsIn_wide.2 (AA.mono h ?_))⟩;intro e w'' k;cases e with
  |returned v=>exact hn _ _ k
  |panicked c=>exact k
  |outgrown=>exact k
 |.ok (.row row args) w',h=>
  refine⟨fun e=>(by cases e),fun c cs _=>?_⟩;obtain⟨v,w2,r2,s2⟩:=h c cs;exact⟨v,w2,hn _ _ r2,stepsIn_wide.2 s2⟩
 |.ok (.round l' f t asg bd) w',h=>exact h.elim
 |.halt (.panic v) w',h=>exact h
theorem Oy(Se:¬ LetsOut Q):∀ (L:List BS) (a:Act) (w:z),L.all WN=AL->Cn P ops Q L a w->wpListIn (Fence.wide.inRound l) n P ops Q L a w
 |[],_,_,_,h=>h
 |o :: L,a,w,hd,h=>by
  rw[List.all_cons,AY] at hd;unfold wpListIn;unfold Cn at h;split
  . next hw=>
    rw[AC hw] at h;rcases h with h|h
    . exact nJ hd.1 (fun a w k=>Oy Se L a w hd.2 k) h
    . exact absurd h.2 Se
  . next hw=>
    rw[AE hw] at h;exact⟨fun _ _=>trivial,Oy Se L _ w hd.2 h⟩
theorem Ij{id:Nat}{L:List BS}(hd:L.all WN=AL)(Se:¬ LetsOut Q)(h:Cn P L.toArray Q L a w):(Code.region id L.toArray AI).wpIn (Fence.wide.inRound l) n P Q a w:=
 wpIn_region_lit (Oy Se L a w hd h)
end
theorem ag(b off n cap l h:Nat)(h1:l<h)(h2:h<=cap)(W:z):
 (Instr.slice 49 (Ak (A ⟨b,off,Y⟩) n cap) (A (H I (l:Int))) (A (H I (h:Int))) (A (H I (h:Int)))).run Ae W=.ok (Ak (A ⟨b,off+l,Y⟩) (h-l) (h-l)) W:=by
 obtain⟨i,g2,g3,g4,g5⟩:=By F7;have hne:h≠l:=by omega
 have ee:Ae.elem 49=5:=by kernel_rfl
 have hs:(sizeOf 5).run Ae W=.ok 1 W:=by simp[sizeOf,typeInfo,g2,g4]
 have hb:(Instr.sliceBounds AL n cap (A (H I (l:Int))) (A (H I (h:Int))) (A (H I (h:Int)))).run Ae W=.ok (l,h,h) W:=by
  simp[Instr.sliceBounds,run_sliceBound,(by omega:(h:Int)<=(cap:Int)),(by omega:(l:Int)<=(h:Int))]
 rw[run_slice_any W 49 _ n cap (by rw[ee];exact Tryz.underlying49),hb,ee];simp only[Result.andThen_ok,hs];simp[sliced,hne,Cb]
abbrev Xl (L:Nat):={ j:Nat // 256*j<L }
def Nd(L:Nat):Nat->List (Xl L)
 |0=>[]
 |k+1=>if h:256*k<L then Nd L k ++ [⟨k,h⟩] else Nd L k
theorem OM{L:Nat}:∀ k,256*k<L+256->(Nd L k).map (·.1)=Co k
 |0,_=>rfl
 |k+1,h=>by
  have h1:256*k<L:=by omega
  rw[Nd,dif_pos h1,Cv,OM k (by omega),Hi];rfl
theorem eH{L k:Nat}(h:256*k<L+256):(Nd L k).length=k:=by
 have:=BH List.length (OM (L:=L) k h)
 rwa [Bk,List.length_range] at this
def oo(vb vo L:Nat)(x:Xl L):Array Aq:=#[Ak (A ⟨vb,vo+256*x.1,Y⟩) (min 256 (L-256*x.1)) (min 256 (L-256*x.1))]
def vI(sB nB:Nat)(W W':z):Prop:=W'.heap[sB]? =W.heap[sB]? /\W'.heap[nB]? =W.heap[nB]?
theorem fI(ao:Option Addr)(L cap:Nat)(w:z):AA Ae 106 #[Ak ao L cap,H I 256] w fun e w'=>e=Ag (.func (.func 154) #[] #[Am (A ⟨w.heap.size,0,Y⟩),Am (A ⟨w.heap.size+1,0,Y⟩)])/\w'=(w.alloc (Ar #[Ak ao L cap] 49)).alloc (Ar #[H I 256] 3):=by
 go_enter Tryz.func106,Tryz.ntmps106;go_wp2;go_ret;exact⟨rfl,rfl⟩
theorem VK{n:Nat}(hn:1<=n){sB nB vb vo L cap:Nat}{ao:Option Addr}(tz:0<L->ao=A ⟨vb,vo,Y⟩)(Cm:L<=cap)(hL:L<=1000000){w:z}(h1:sB<w.heap.size)(h2:nB<w.heap.size)(hs:w.cell? ⟨sB,0,Y⟩=A (Ak ao L cap))(hN:w.cell? ⟨nB,0,Y⟩=A (H I 256)):
 SeqStopsK Fence.wide n Ae 154 #[Am (A ⟨sB,0,Y⟩),Am (A ⟨nB,0,Y⟩)] (oo vb vo L) (vI sB nB) (fun xs=>xs.map (·.1)=Co ((L+255) / 256)) (fun _=>True) ((L+255) / 256) w:=by
 intro l J Jx W hW hJ hJx hY h0;have lE:W.cell? ⟨sB,0,Y⟩=A (Ak ao L cap):=(hW.cell (p:=⟨sB,0,Y⟩) h1).trans hs;have hN0:W.cell? ⟨nB,0,Y⟩=A (H I 256):=(hW.cell (p:=⟨nB,0,Y⟩) h2).trans hN;have HS0:=vJ lE;have HN0:=vJ hN0;have H0:=vJ h0;have HJ:=vJ hJ;have HY:=vJ hY;clear hW hs hN lE hN0 h0 hJ hJx hY h1 h2;refine callsIn_of_wp Tryz.func154 rfl trivial ?_ rfl;simp only[Tryz.ntmps154,List.size_toArray,Ch,List.length_nil,Nat.reduceAdd,Nat.reduceSub,Array.replicate_succ,Array.replicate_zero,List.push_toArray,List.append_toArray,B0,List.cons_append]
 gi_wp2
 gi_loopw [4] (fun s4 wr=>∃ k i:Nat,256*k=i/\i<L+256/\s4=H I i/\Hid (J (Nd L k) wr)/\Hid (wr.cell? ⟨sB,0,Y⟩=A (Ak ao L cap))/\Hid (wr.cell? ⟨nB,0,Y⟩=A (H I 256))) (fun s4 _=>L-(intOf s4).toNat)
 case atStart=>exact⟨0,0,rfl,by omega,rfl,H0,HS0,HN0⟩
 case round=>
  obtain⟨k,i,hki,hiL,rfl,HJs,HS,HN⟩:=hrel;have c1:=HS.out;have c2:=HN.out;by_cases hlt:i<L
  . have J6:(i:Int)<(L:Int):=by omega
    obtain rfl:=tz (by omega);have XT:256*k<L:=(by omega);obtain⟨t,ht⟩:=nm (min 256 (L-i));obtain⟨e,he⟩:=nm (i+t);obtain⟨fn,tmps,assign,body,hy,hR⟩:=HY.out _ ⟨k,XT⟩ wr.drew (HJ.out _ _ _ Y HJs.out ⟨rfl,rfl,rfl,AB _,fun _ _ _=>rfl⟩ (fun r e=>by cases e)) (by rw[eH (by omega)];omega);have e1:oo vb vo L ⟨k,XT⟩=#[Ak (A ⟨vb,vo+i,Y⟩) t t]:=(by unfold oo;rw[hki,<- ht]);rw[e1] at hy;have e2:Nd L (k+1)=Nd L k ++ [⟨k,XT⟩]:=(by rw[Nd,dif_pos XT]);have HE2:=vJ e2;have e3:(i:Int)+(t:Int)=(e:Int):=(by omega);have e4:I.wrap (e:Int)=(e:Int):=A9 _ (by omega);have e5:I.wrap ((i:Int)+(t:Int))=(e:Int):=(by rw[e3];exact e4);have f1:∀ W,(Instr.slice 49 (Ak (A ⟨vb,vo,Y⟩) L cap) (A (H I (i:Int))) Y Y).run Ae W=.ok (Ak (A ⟨vb,vo+i,Y⟩) (L-i) (cap-i)) W:=fun W=>by
     have:=Ew W vb vo L cap i L Y (AN ⟨rfl,rfl⟩) (by omega) Cm (by omega);rw[run_sliceAt_slice W 49 _ _ _ _ (by rw[show Ae.elem 49=5 by kernel_rfl];exact Tryz.underlying49)] at this;exact this
    have f2:∀ W,(Instr.slice 49 (Ak (A ⟨vb,vo,Y⟩) L cap) (A (H I (i:Int))) (A (H I (e:Int))) (A (H I (e:Int)))).run Ae W=.ok (Ak (A ⟨vb,vo+i,Y⟩) t t) W:=fun W=>by
     have:=ag vb vo L cap i e (by omega) (by omega) W;rw[show e-i=t by omega] at this;exact this
    have f3:(if ((L-i:Nat):Int)<256 then ((L-i:Nat):Int) else 256)=(t:Int):=by split <;> omega
    have b1:t<=256:=(by omega);have b2:i+256<L+512:=(by omega);have b3:(256:Int)<=1000000:=(by omega);have XE:256*(k+1)=i+256:=(by omega);have HME:Hid (L-(i+256)<L-i):=vJ (by omega);have HI:Hid (i+256<L+256):=vJ (by omega);have HK2:=vJ XE;obtain⟨Li,hLi⟩:=nm (L-i);rw[<- hLi] at f1 f3;clear ht he e1 e2 hki XE hLi
    gi_wp2
    refine wpIn_wide.2 ?_;have hS3:wr.drew.cell? ⟨sB,0,Y⟩=A (Ak (A ⟨vb,vo,Y⟩) L cap)/\wr.drew.cell? ⟨nB,0,Y⟩=A (H I 256):=⟨c1,c2⟩;refine wp_region_held_drew (S:=fun V=>V.cell? ⟨sB,0,Y⟩=A (Ak (A ⟨vb,vo,Y⟩) L cap)/\V.cell? ⟨nB,0,Y⟩=A (H I 256)) (by kernel_rfl) hS3 (fun hHeld=>?_);refine Bt (i:=0) (v:=H I 256) rfl (by kernel_rfl) (by kernel_rfl) (by kernel_rfl) (fun _ _ _ h=>h) (AN ⟨by rfl,?_⟩) (by assumption) ?_
    . intro V ia;obtain⟨z1,z2⟩:=ia;go_simp;(try omega)
    (try simp only[AR,Aj,Av,Au,As,Ao])
    refine Bt (i:=1) (v:=Ak (A ⟨vb,vo,Y⟩) L cap) rfl (by kernel_rfl) (by kernel_rfl) (by kernel_rfl) (fun _ _ _ h=>h) (AN ⟨by rfl,?_⟩) (by assumption) ?_
    . intro V ia;obtain⟨z1,z2⟩:=ia;go_simp;(try omega)
    (try simp only[AR,Aj,Av,Au,As,Ao,Ap])
    refine Bt (i:=2) (v:=H I i) rfl (by kernel_rfl) (by kernel_rfl) (by kernel_rfl) (fun _ _ _ h=>h) (AN ⟨by rfl,?_⟩) (by assumption) ?_
    . intro V ia;obtain⟨z1,z2⟩:=ia;go_simp;(try omega)
    (try simp only[AR,Aj,Av,Au,As,Ao,Ap])
    refine Bt (i:=3) (v:=Ak (A ⟨vb,vo+i,Y⟩) Li (cap-i)) rfl (by kernel_rfl) (by kernel_rfl) (by kernel_rfl) (fun _ _ _ h=>h) (AN ⟨by rfl,?_⟩) (by assumption) ?_
    . intro V ia;obtain⟨z1,z2⟩:=ia;go_simp;(try omega)
    (try simp only[AR,Aj,Av,Au,As,Ao,Ap])
    refine Bt (i:=4) (v:=H I Li) rfl (by kernel_rfl) (by kernel_rfl) (by kernel_rfl) (fun _ _ _ h=>h) (AN ⟨by rfl,?_⟩) (by assumption) ?_
    . intro V ia;obtain⟨z1,z2⟩:=ia;go_simp;(try omega)
    (try simp only[AR,Aj,Av,Au,As,Ao,Ap])
    refine Bt (i:=5) (v:=H I t) rfl (by kernel_rfl) (by kernel_rfl) (by kernel_rfl) (fun _ _ _ h=>h) (AN ⟨by rfl,?_⟩) (by assumption) ?_
    . intro V ia;obtain⟨z1,z2⟩:=ia;go_simp;(try omega)
    (try simp only[AR,Aj,Av,Au,As,Ao,Ap])
    refine Bt (i:=6) (v:=H I t) rfl (by kernel_rfl) (by kernel_rfl) (by kernel_rfl) (fun _ _ _ h=>h) (AN ⟨by rfl,?_⟩) (by assumption) ?_
    . intro V ia;obtain⟨z1,z2⟩:=ia;go_simp;(try omega)
    (try simp only[AR,Aj,Av,Au,As,Ao,Ap])
    refine wpAnyH_done (by kernel_rfl) ?_ _;obtain⟨c3,c4⟩:=hS3
    gi_wp2
    refine hR.mono ?_;rintro e W3 (⟨rfl,hJ3,hk3⟩| ⟨rfl,hJx3⟩)
    . have c5:W3.cell? ⟨sB,0,Y⟩=A (Ak (A ⟨vb,vo,Y⟩) L cap):=(Bh (a:=⟨sB,0,Y⟩) hk3.1).trans c3
      have c6:W3.cell? ⟨nB,0,Y⟩=A (H I 256):=(Bh (a:=⟨nB,0,Y⟩) hk3.2).trans c4;have HJ3:=vJ hJ3;clear hJ3 hk3
      gi_wp2
      go_roundw
      case rel=>exact⟨k+1,i+256,HK2.out,HI.out,by go_num,vJ (by rw[HE2.out];exact HJ3.out),vJ c5,vJ c6⟩
      case measure=>have:=HME.out;simp[intOf];omega
    . gi_wp2
      refine Bv (results_none rfl _ _ _) rfl ?_;exact⟨⟨_,rfl⟩,Ba ⟨_,trivial,hJx3⟩⟩
  . have J6:¬ (i:Int)<(L:Int):=by omega
    have I3:k=(L+255) / 256:=(by omega);subst I3
    gi_wp2
    go_end0
    exact⟨⟨_,rfl⟩,AN ⟨_,OM _ (by omega),HJs.out⟩⟩
end
section
open Go.RowKit BM
attribute [local go_sem] BS.semAt_some
def gE(l:List Int)(w:z)(e:Ending)(w':z):Prop:=
 (∃ O,FrmL O/\DW O=l/\∃ v,e=Ag (AO #[v,H I 0])/\ER w' w.heap.size 38 v O/\At w.heap.size w w')\/
 ((¬ ∃ O,FrmL O/\DW O=l)/\e=Ag (AO #[Ak Y 0 0,H I 3])/\At w.heap.size w w')
def vx(w0:z)(l:List Int)(Bl lB r1 r2:Nat){L:Nat}(pre:List (Xl L))(W:z):Prop:=
 (∃ v E,W.heap[lB]? =A (Ar #[v] 51 (0,0))/\PartsD l (pre.map (·.1)) E/\ER W Bl 38 v E)/\W.heap[r1]? =A (Ar #[Ak Y 0 0] 51 (0,0))/\W.heap[r2]? =A (Ar #[H I 0] 33 (0,0))/\At w0.heap.size w0 W/\Bl<=W.heap.size
def vv(w0:z)(l:List Int)(r1 r2:Nat)(c:Code){L:Nat}(pre:List (Xl L))(W:z):Prop:=
 c=.ret/\(¬ ∃ O,FrmL O/\DW O=l)/\W.heap[r1]? =A (Ar #[Ak Y 0 0] 51 (0,0))/\W.heap[r2]? =A (Ar #[H I 3] 33 (0,0))/\At w0.heap.size w0 W
theorem If{W W':z}{row:Option Nat}{k:Nat}{o:Obj}(hg:W.grownBy W' row)(hk:W.heap[k]? =A o)(hne:∀ r,row=A r->r≠k):W'.heap[k]? =A o:=
 (hg.block k (Al.1 hk).1 (fun e=>hne k e.symm rfl)).trans hk
theorem Wp{W W':z}{row:Option Nat}{B:Nat}{T:TypeId}{v:Aq}{O:List (Int × ByteArray)}(h:ER W B T v O)(hg:W.grownBy W' row)(hr:∀ r,row=A r->∃ o:Obj,W.heap[r]? =A o/\o.isCells=AI):ER W' B T v O:=by
 refine⟨h.1,?_⟩;rcases h.2 with h| ⟨g,cap,cur,hv,XK,hh,r⟩
 . exact AN h
 . refine Ba ⟨g,cap,cur,hv,XK,If hg hh (fun k e hk=>?_),r⟩
   obtain⟨o,ho,hc⟩:=hr k e;rw[hk,hh] at ho;cases ho
   cases hc
theorem nx{w0:z}{l:List Int}{Bl lB r1 r2:Nat}(L:Nat)(h0:w0.heap.size<=Bl)(h1:lB<Bl)(h2:r1<Bl)(h3:r2<Bl):OwnFrom Bl (vx w0 l Bl lB r1 r2 (L:=L)):=by
 rintro s W W' row ⟨⟨v,E,a,b,c⟩,d,e,f,g⟩ hg hr;exact⟨⟨v,E,If hg a (fun r e=>by have:=(hr r e).1;omega),b,Wp c hg fun r e=>(hr r e).2⟩,If hg d (fun r e=>by have:=(hr r e).1;omega),If hg e (fun r e=>by have:=(hr r e).1;omega),f.grown hg f.size (fun k e=>AT h0 (hr k e).1),AT g hg.size⟩
theorem m_{w0:z}{l:List Int}{Bl r1 r2:Nat}(L:Nat)(h0:w0.heap.size<=Bl)(h2:r1<Bl)(h3:r2<Bl)(c:Code):OwnFrom Bl (vv w0 l r1 r2 c (L:=L)):=by
 rintro s W W' row ⟨a,b,d,e,f⟩ hg hr;exact⟨a,b,If hg d (fun r e=>by have:=(hr r e).1;omega),If hg e (fun r e=>by have:=(hr r e).1;omega),f.grown hg f.size (fun k e=>AT h0 (hr k e).1)⟩
theorem Pq{W W':z}(h:At W.heap.size W W'):KeepsOthers W W':=⟨h.size,fun k o hk _=>(h.block k (Al.1 hk).1).trans hk⟩
theorem qr(w:z)(c1 c2 c3 c4 c5:Array Aq)(t1 t2 t3 t4 t5:TypeId){W:z}(hW:W=((((w.alloc (Ar c1 t1)).alloc (Ar c2 t2)).alloc (Ar c3 t3)).alloc (Ar c4 t4)).alloc (Ar c5 t5)):
 W.heap[w.heap.size]? =A (Ar c1 t1 (0,0))/\W.heap[w.heap.size+1]? =A (Ar c2 t2 (0,0))/\W.heap[w.heap.size+1+1]? =A (Ar c3 t3 (0,0))/\W.heap[w.heap.size+1+1+1]? =A (Ar c4 t4 (0,0))/\W.heap[w.heap.size+1+1+1+1]? =A (Ar c5 t5 (0,0))/\W.heap.size=w.heap.size+1+1+1+1+1/\At w.heap.size w W:=by
 have n1:=Aw w (Ar c1 t1);have b1:=Ay w (Ar c1 t1);have s1:(w.alloc (Ar c1 t1)).heap.size=w.heap.size+1:=z.size_alloc _ _;generalize w.alloc (Ar c1 t1)=w1 at n1 b1 s1 hW;have n2:=Aw w1 (Ar c2 t2);have b2:=Ay w1 (Ar c2 t2);have s2:(w1.alloc (Ar c2 t2)).heap.size=w1.heap.size+1:=z.size_alloc _ _;generalize w1.alloc (Ar c2 t2)=w2 at n2 b2 s2 hW;have n3:=Aw w2 (Ar c3 t3);have b3:=Ay w2 (Ar c3 t3);have s3:(w2.alloc (Ar c3 t3)).heap.size=w2.heap.size+1:=z.size_alloc _ _;generalize w2.alloc (Ar c3 t3)=w3 at n3 b3 s3 hW;have n4:=Aw w3 (Ar c4 t4);have b4:=Ay w3 (Ar c4 t4);have s4:(w3.alloc (Ar c4 t4)).heap.size=w3.heap.size+1:=z.size_alloc _ _;generalize w3.alloc (Ar c4 t4)=w4 at n4 b4 s4 hW;have n5:=Aw w4 (Ar c5 t5);have b5:=Ay w4 (Ar c5 t5);have s5:(w4.alloc (Ar c5 t5)).heap.size=w4.heap.size+1:=z.size_alloc _ _;rw[<- hW] at n5 b5 s5;rw[s4,s3,s2,s1] at n5;rw[s3,s2,s1] at n4;rw[s2,s1] at n3;rw[s1] at n2;have c2':=b2.trans (b3.mono (by omega));have c3':=c2'.trans (b4.mono (by omega));have c4':=c3'.trans (b5.mono (by omega));have d3:=b3.trans (b4.mono (by omega));have d4:=d3.trans (b5.mono (by omega));have f4:=b4.trans (b5.mono (by omega));exact⟨(c4'.block _ (by omega)).trans n1,(d4.block _ (by omega)).trans n2,(f4.block _ (by omega)).trans n3,(b5.block _ (by omega)).trans n4,n5,by omega,b1.trans (c4'.mono (by omega))⟩
theorem nS{w:z}{b off n c c':Nat}{l:List Int}(h:BSl w (Ak (A ⟨b,off,Y⟩) n c) l)(h1:l.length<=c'):BSl w (Ak (A ⟨b,off,Y⟩) n c') l:=by
 refine⟨h.1,?_⟩;rcases h.2 with⟨e,_⟩| ⟨a,cap,e,hc,hr⟩
 . cases e
 . refine Ba ⟨a,c',?_,h1,hr⟩
   have:=A0 e;rw[this.1,this.2.1]
theorem qy{l:List Int}{j:Nat}(h:∀ O,¬ GoodB l j O):¬ ∃ O,FrmL O/\DW O=l:=fun⟨O,a,b⟩=>h _ (n_ a b j)
theorem MV{fn:Func}{p u:Tmp}(h:fn.results=#[.cell p 51,.cell u 33])(tmps:Array Aq)(w:z)(g k:Nat)(v x:Aq)(T U:TypeId)(hp:tmps.getD p undef=Am (A ⟨g,0,Y⟩))(hu:tmps.getD u undef=Am (A ⟨k,0,Y⟩))
 (hg:w.heap[g]? =A (Ar #[v] T (0,0))) (hk:w.heap[k]? =A (Ar #[x] U (0,0))):(results fn tmps).run Ae w=.ok (AO #[v,x]) w:=by
 have c1:w.cell? ⟨g,0,Y⟩=A v:=by rw[Az _ _ _ _ _ _ hg];rfl
 have c2:w.cell? ⟨k,0,Y⟩=A x:=by rw[Az _ _ _ _ _ _ hk];rfl
 have h0:(results fn tmps).run Ae w=
  ((asAddr (tmps.getD p undef)).run Ae w).andThen fun a w₁=>((loadVar 51 a).run Ae w₁).andThen fun v w₂=>((asAddr (tmps.getD u undef)).run Ae w₂).andThen fun a w₃=>((loadVar 33 a).run Ae w₃).andThen fun y w₄=>.ok (AO #[v,y]) w₄:=by
  simp only[results,h];simp[Result.andThen]
 rw[h0,hp,hu];simp only[asAddr,Sem.run_pure,Result.andThen_ok]
 go_simp
theorem DB{W:z}{b:Nat}{v:Aq}{T:TypeId}(h:W.heap[b]? =A (Ar #[v] T (0,0))):W.cell? ⟨b,0,Y⟩=A v:=by rw[Az _ _ _ _ _ _ h];rfl
theorem Fc{W:z}{b:Nat}{v:Aq}{T:TypeId}(h:W.heap[b]? =A (Ar #[v] T (0,0))):W.frozen? ⟨b,0,Y⟩=AI:=by simp[z.frozen?,h]
theorem Il{W:z}{b:Nat}{v v':Aq}{T:TypeId}(h:W.heap[b]? =A (Ar #[v] T (0,0))):(W.setCell ⟨b,0,Y⟩ v').heap[b]? =A (Ar #[v'] T (0,0)):=by
 rw[Bs W b 0 _ _ v' h];rfl
theorem Tv{w W w8:z}{l:List Int}{q:Nat}{v:Aq}(hi:W.heap[q+1+1]? =A (Ar #[v] 51 (0,0))/\W.heap[q]? =A (Ar #[Ak Y 0 0] 51 (0,0))/\W.heap[q+1]? =A (Ar #[H I 0] 33 (0,0))/\At w.heap.size w W)(hb:At W.heap.size W w8)(h0:¬ ∃ O,FrmL O/\DW O=l)(hq:q=w.heap.size){L:Nat}{pre:List (Xl L)}:
 KeepsOthers W ((w8.setCell ⟨q,0,Y⟩ (Ak Y 0 0)).setCell ⟨q+1,0,Y⟩ (H I 3))/\vv w l q (q+1) .ret pre ((w8.setCell ⟨q,0,Y⟩ (Ak Y 0 0)).setCell ⟨q+1,0,Y⟩ (H I 3)):=by
 obtain⟨_,i2,i3,i4⟩:=hi;have k2:=(hb.block _ (Al.1 i2).1).trans i2;have k3:=(hb.block _ (Al.1 i3).1).trans i3;have h1:(w8.setCell ⟨q,0,Y⟩ (Ak Y 0 0)).heap[q]? =A (Ar #[Ak Y 0 0] 51 (0,0)):=Il k2;have h2:(w8.setCell ⟨q,0,Y⟩ (Ak Y 0 0)).heap[q+1]? =A (Ar #[H I 0] 33 (0,0)):=(Bq w8 ⟨q,0,Y⟩ (q+1) _ (by show q+1≠q;omega)).trans k3;refine⟨((Pq hb).trans (KeepsOthers.setCell _ _ _)).trans (KeepsOthers.setCell _ _ _),rfl,h0,(Bq _ ⟨q+1,0,Y⟩ q _ (by show q≠q+1;omega)).trans h1,Il h2,?_⟩;exact(i4.trans (((hb.mono i4.size).setCell (p:=⟨q,0,Y⟩) (by show w.heap.size<=q;omega) _).setCell (p:=⟨q+1,0,Y⟩) (by show w.heap.size<=q+1;omega) _))
attribute [local go_sem] BS.semAt_some
theorem SC{w:z}{v:Aq}{l:List Int}(hs:BSl w v l)(hl:l.length<=100000)(M0:l.length%16=0):AA Ae 67 #[v] w (gE l w):=by
 obtain⟨ao,cap,rfl,Cm⟩:=hs.shape;obtain⟨vb,vo,tz⟩:∃ vb vo,0<l.length->ao=A ⟨vb,vo,Y⟩/\vb<w.heap.size:=by
  by_cases h0:0<l.length
  . obtain⟨b,off,c,e,_,hb⟩:=hs.open' h0
    exact⟨b,off,fun _=>⟨(A0 e).1,hb⟩⟩
  . exact⟨0,0,fun h=>absurd h h0⟩
 obtain⟨L,hL⟩:=nm l.length;have e1:(L:Int).tmod 16=0:=by rw[D9 (by omega)];omega
 have e2:(L:Int)%16=0:=by omega
 obtain⟨q,hq⟩:=nm w.heap.size;have um:L<=cap:=by omega
 have sQ:L<=1000000:=by omega
 have HAO:Hid (0<L->ao=A ⟨vb,vo,Y⟩):=vJ fun h=>(tz (by omega)).1
 have HPB:Hid (∀ W,At w.heap.size w W->∀ j t o,256*j<L->t=min 256 (L-256*j)->o=vo+256*j->BSl W (Ak (A ⟨vb,o,Y⟩) t t) (EA l j)):=vJ fun W hb j t o hj ht ho=>by
  obtain⟨rfl,_⟩:=tz (by omega);have h1:=(hs.below hb).mid (256*j) t (by omega);rw[ho];have e:(l.drop (256*j)).take t=EA l j:=by
   unfold EA;rw[ht];by_cases c:L-256*j<=256
   . rw[AV (by rw[AU];omega),AV (by rw[AU];omega)]
   . rw[show min 256 (L-256*j)=256 by omega]
  rw[e] at h1;exact nS h1 (by rw[Jy];omega)
 have HLL:=vJ hL;have H16:=vJ M0;rw[<- hL];clear hs hl M0 Cm tz hL;refine(callsIn_wide (n:=9)).1 ?_;refine callsIn_of_wp_marks Tryz.func67 rfl trivial ?_ rfl;simp only[Tryz.ntmps67,List.size_toArray,Ch,List.length_nil,Nat.reduceAdd,Nat.reduceSub,Array.replicate_succ,Array.replicate_zero,List.push_toArray,List.append_toArray,B0,List.cons_append]
 gi_wp2_with (refine⟨trivial,?_⟩;gi_at_call 106;refine(callsIn_wide.2 (fI ao L cap _)).mono ?_;rintro e w2 ⟨rfl,GN⟩)
 rw[<- GN];obtain⟨g1,g2,g3,g4,g5,gs,gb⟩:=qr w _ _ _ _ _ _ _ _ _ _ GN;rw[<- hq] at g1 g2 g3 g4 g5 gs |-
 have HG4:=vJ g4;have HG5:=vJ g5;have HGS:=vJ gs;have HGB:=vJ gb;have HQ:=vJ hq;have pP:vx w l w2.heap.size (q+1+1) q (q+1) (L:=L) [] w2:=⟨⟨_,[],g3,PartsD.nil l,UU _ _ _⟩,g1,g2,gb,AB _⟩;clear GN g1 g2 g3 hq
 refine wpIn_rangeFunc_ownF rfl (by decide) (gf:=154) (lb:=#[Am (A ⟨q+1+1+1,0,Y⟩),Am (A ⟨q+1+1+1+1,0,Y⟩)]) rfl trivial (enters_of Tryz.func154 (by kernel_rfl) rfl)
  (VK (n:=8) (by decide) HAO.out um sQ (w:=w2) (sB:=q+1+1+1) (nB:=q+1+1+1+1) (by omega) (by omega) (DB g4) (DB g5)) (fun h k=>⟨k.1.trans h.1,k.2.trans h.2⟩)
  (fun W l' o o' hl' _ _ _=>⟨z.putObj_heap_other (by omega),z.putObj_heap_other (by omega)⟩) (AM _ _) (fun _=>rfl)
  (fun pre W=>vx w l w2.heap.size (q+1+1) q (q+1) pre W) (fun c pre W=>vv w l q (q+1) c pre W)
  ?hI ?hIx pP (fun x=>{ tmps:=#[Ak ao L cap,undef,Am (A ⟨q,0,Y⟩),Am (A ⟨q+1,0,Y⟩),Am (A ⟨q+1+1,0,Y⟩),Ak (A ⟨vb,vo+256*x.1,Y⟩) (min 256 (L-256*x.1)) (min 256 (L-256*x.1)),undef,undef,undef,Ak ao L cap,H I L,H I 0,A1 AI,Ak ao L cap,.func (.func 154) #[] #[Am (A ⟨q+1+1+1,0,Y⟩),Am (A ⟨q+1+1+1+1,0,Y⟩)],Ak (A ⟨vb,vo+256*x.1,Y⟩) (min 256 (L-256*x.1)) (min 256 (L-256*x.1)),undef,undef,undef,undef,undef,undef,undef,undef,undef,undef,undef,undef,undef,undef,undef,undef,undef,undef,undef,undef,undef,undef,undef],defers:=[] }) ?assign ?body ?done ?stop
 case hI=>exact nx L gb.size (by omega) (by omega) (by omega)
 case hIx=>exact fun c=>m_ L gb.size (by omega) (by omega) c
 case assign=>
  intro l' x W K hK;clear gs;unfold oo
  gi_wp2
  exact hK
 case body=>
  rintro l' pre ⟨j,hj⟩ W ⟨⟨v,E,ha,hb,hc⟩,hd,he,hf,hws⟩ hlen;have HWS:=vJ hws;clear hws;obtain⟨t,ht⟩:=nm (min 256 (L-256*j));obtain⟨o,ho⟩:=nm (vo+256*j);simp only[];rw[<- ht,<- ho];have hpb:=HPB.out W hf j t o hj ht ho;have HT:Hid (t=(EA l j).length):=vJ (by rw[Jy,ht,HLL.out]);have HT16:Hid ((EA l j).length%16=0):=vJ (by have:=HLL.out;have:=H16.out;rw[Jy];omega);have HEL:Hid (E.length<=1000000):=vJ (by
   have h1:=DG hb.1;have h2:=BH List.length hb.2;rw[List.length_flatMap] at h2;have h3:((pre.map (·.1)).map fun a=>(EA l a).length).sum<=pre.length*256:=by
    have:∀ xs:List Nat,(xs.map fun a=>(EA l a).length).sum<=xs.length*256:=fun xs=>by
     induction xs with
     |nil=>simp
     |cons x xs ih=>rw[J5,List.sum_cons,Ch,Jy];omega
    have:=this (pre.map (·.1))
    rwa [Bk] at this
   omega)
  obtain⟨ao',c',rfl⟩:=(ER.sl hc).shape;have cM:t<=256:=by omega
  have ht16:16<=t:=by have:=HT.out;have:=HT16.out;omega
  have HHT:=vJ ht;have HJ:=vJ hj;clear ht ho hlen;refine wpIn_block ?_;refine wpIn_seq_k fun K6 hK6=>?_
  refine Ij rfl (by rintro⟨_,_,h⟩;exact h) ?_;refine C9 _ rfl _ _ rfl 256 256 rfl rfl rfl (by decide) ?_;have hb6:=Ay W (Ar (A3 256 (H .u8 0)) 5);have oT:=Aw W (Ar (A3 256 (H .u8 0)) 5);obtain⟨w6,hw6⟩:=nm (W.alloc (Ar (A3 256 (H .u8 0)) 5));rw[<- hw6] at hb6 oT |-
  obtain⟨gB,XK⟩:=nm W.heap.size;rw[<- XK] at oT |-
  have HGQ:=vJ XK;have HB6:=vJ hb6;have HPB6:=vJ (hpb.below hb6);have HN6:Hid (w6.heap[gB]? =A (Ar (AD 256 (H .u8 0)).toArray 5 (0,0))):=vJ (by rw[List.toArray_replicate];exact oT);have HSRC:Hid (0<((EA l j).map (H .u8)).length->∃ ad,A (⟨vb,o,Y⟩:Addr)=A ad/\∀ i v,((EA l j).map (H .u8))[i]? =A v->w6.cell? (ad.add i)=A v):=vJ fun h0=>by
   have:=ED HPB6.out (fun _ _=>rfl) t;rw[AV (by have:=HT.out;omega)] at this;exact this h0
  clear hw6 XK oT hb6 hpb;go_wp2;refine wpIn_seq_k fun K7 hK7=>?_
  refine Ij rfl (by rintro⟨_,_,h⟩;exact h) ?_;go_wp2_with (refine C8 rfl _ _ 49 49 rfl 5 Tryz.underlying49 (by kernel_rfl) _ _ 256 256 t t rfl rfl gB 0 (AD 256 (H .u8 0)) 5 HN6.out ((EA l j).map (H .u8)) t (by rw[Bk];exact HT.out.symm) (DF cM).symm (fun h0=>⟨rfl,HSRC.out h0⟩) (by rw[Bk,A4,<- HT.out];omega) (fun x hx=>by obtain⟨y,_,rfl⟩:=Cq.1 hx;rfl) ?_;intro w7 HC7 hw7;have HW7:=vJ hw7;clear hw7)
  have HB7:Hid (At W.heap.size W w7):=vJ (HB6.out.trans (HW7.out.below (Nat.le_of_eq HGQ.out.symm)));have HBL:Hid (BSl w7 (Ak (A ⟨gB,0,Y⟩) 256 256) (VE l j)):=vJ (by
   have hby:FJ (VE l j):=CS (CE (CZ HPB6.out.1)) (CW _);refine⟨hby,Ba ⟨_,256,by rw[Ny],by rw[Ny];exact AB _,fun i hi=>⟨(Al.1 HC7.out).1,rfl,?_⟩⟩⟩;rw[Ny] at hi;rw[Bm,Az _ _ _ _ _ _ HC7.out];have e:splice (AD 256 (H .u8 0)) 0 ((EA l j).map (H .u8))=(VE l j).map (H .u8):=by
    unfold splice VE;rw[List.take_zero,B0,Bm,List.drop_replicate,Cv,List.map_replicate,Bk]
   rw[e];simp[Ny,hi])
  have KD:=vJ (jC HBL.out);refine wpIn_seq_k fun K8 hK8=>?_
  refine Ij rfl (by rintro⟨_,_,h⟩;exact h) ?_;have HBAD:Hid ((∀ O,¬ GoodB l j O)->¬ ∃ O,FrmL O/\DW O=l):=vJ qy;have HI:Hid (W.heap[q+1+1]? =A (Ar #[Ak ao' E.length c'] 51 (0,0))/\W.heap[q]? =A (Ar #[Ak Y 0 0] 51 (0,0))/\W.heap[q+1]? =A (Ar #[H I 0] 33 (0,0))/\At w.heap.size w W):=vJ ⟨ha,hd,he,hf⟩;have HE:=vJ hb;have HO:=vJ hc;clear ha hd he hf hb hc;obtain⟨t16,pV⟩:=nm (t / 16);have HT6:Hid (t16=(EA l j).length / 16):=vJ (by rw[pV,HT.out]);have HT7:Hid (1<=t16/\t16<=16):=vJ (by omega);have Q2:Hid ((t:Int) / 16=(t16:Int)):=vJ (by omega);clear pV;go_wp2_with (go_at_call 107;(with_reducible refine KD.out.mono ?_);rintro ee w8 (⟨Ob,uq,u,rfl,hsl,hb8⟩| ⟨C6,rfl,hb8⟩);(obtain⟨uo,uc,rfl⟩:=hsl.shape))
  . have HB8:Hid (At W.heap.size W w8):=vJ (HB7.out.trans (hb8.mono HB7.out.size))
    have HSL:=vJ hsl;have HIS:=vJ uq;clear hb8 hsl uq KD HBL HC7 HN6 HSRC HPB6 HPB;obtain⟨m,hm⟩:=nm Ob.length;rw[<- hm] at HSL |-
    have HM:=vJ hm;clear hm;obtain⟨i1,i2,i3,i4⟩:=HI.out;have l1:(W.heap[q+1+1]? =A (Ar #[Ak ao' E.length c'] 51 (0,0))->w8.heap[q+1+1]? =A (Ar #[Ak ao' E.length c'] 51 (0,0))):=fun h=>(HB8.out.block _ (Al.1 h).1).trans h
    have k1:=l1 i1;have k2:=(HB8.out.block _ (Al.1 i2).1).trans i2;have k3:=(HB8.out.block _ (Al.1 i3).1).trans i3;have HK1:=vJ k1;have HK2:=vJ k2;have HK3:=vJ k3;clear i1 i2 i3 i4 l1 k1 k2 k3;refine wpIn_seq_k fun K9 hK9=>?_
    have HK9:=vJ hK9;clear hK9;by_cases Ok:m=t16
    . have hgb:((m:Int) != (t:Int) / 16)=AI:=by rw[bne_eq_false_iff_eq,Q2.out];omega
      have HGOOD:Hid (GoodB l j Ob):=vJ ⟨HIS.out,by rw[<- HM.out,Ok,HT6.out]⟩;have hm1:1<=m:=(by have:=HT7.out;omega);have hm2:m<=16:=(by have:=HT7.out;omega);have HGL:=vJ Ok;clear Ok;refine wpIn_seq_k fun Kc hKc=>?_
      refine Ij rfl (by rintro⟨_,_,h⟩;exact h) ?_;go_wp2
      gi_wp2
      refine HK9.out _ _ ?_;clear HK9;refine Ij rfl (by rintro⟨_,_,h⟩;exact h) ?_;have ur:w2.heap.size<=w8.heap.size:=AT HWS.out HB8.out.size;have HER8:Hid (ER w8 w2.heap.size 38 (Ak ao' E.length c') E):=vJ (HO.out.below HB8.out);have c1:=DB HK1.out
      go_wp2_with (refine Is _ rfl 51 38 _ _ rfl Tryz.underlying51 px w2.heap.size (Ak ao' E.length c') (Ak uo m uc) E Ob rfl HER8.out HEL.out (by rw[<- HM.out];omega) (by rw[<- HM.out];omega) rfl HSL.out ur ?_
                   intro v9 w9 hr9 hb9 hk9;obtain⟨ao9,c9,ut⟩:=hr9.sl.shape;rw[Ax] at ut;subst ut;have k9:w9.heap[q+1+1]? =A (Ar #[Ak ao' E.length c'] 51 (0,0)):=(hb9.block _ (by have:=HGS.out;omega)).trans HK1.out;have c9':=DB k9;have f9':=Fc k9)
      have hbs:At q W (w9.setCell ⟨q+1+1,0,Y⟩ (Ak ao9 (E.length+Ob.length) c9)):=by
       have hx:q<=W.heap.size:=(by rw[HQ.out];exact HI.out.2.2.2.size);exact((HB8.out.mono hx).trans (hb9.mono (by have:=HGS.out;omega))).setCell (p:=⟨q+1+1,0,Y⟩) (by show q<=q+1+1;omega) _
      have ho:∀ b,b≠q+1+1->b<w2.heap.size->b<W.heap.size->(w9.setCell ⟨q+1+1,0,Y⟩ (Ak ao9 (E.length+Ob.length) c9)).heap[b]? =W.heap[b]? :=fun b h1 h2 h3=>
       (Bq w9 ⟨q+1+1,0,Y⟩ b _ h1).trans ((hb9.block b h2).trans (HB8.out.block b h3))
      have hws:=HWS.out;have hbs8:w8.heap.size<=(w9.setCell ⟨q+1+1,0,Y⟩ (Ak ao9 (E.length+Ob.length) c9)).heap.size:=(by rw[z.size_setCell];exact hb9.size);refine⟨((Pq HB8.out).trans hk9).trans (KeepsOthers.setCell _ _ _),⟨ho (q+1+1+1) (by omega) (by have:=HGS.out;omega) (by have:=HGS.out;omega),ho (q+1+1+1+1) (by omega) (by have:=HGS.out;omega) (by have:=HGS.out;omega)⟩,⟨_,E ++ Ob,Il k9,?_,?_⟩,?_,?_,?_,?_⟩
      . rw[Cv]
        exact HE.out.more HGOOD.out HT16.out
      . have h0:ER w9 w2.heap.size 38 (Ak ao9 (E.length+Ob.length) c9) (E ++ Ob):=hr9
        refine⟨h0.1,?_⟩;rcases h0.2 with h0| ⟨g,cap',cur,hv,XK,hh,r⟩
        . exact AN h0
        . exact Ba ⟨g,cap',cur,hv,XK,(Bq w9 ⟨q+1+1,0,Y⟩ g _ (by show g≠q+1+1;have:=HGS.out;omega)).trans hh,r⟩
      . rw[ho q (by omega) (by have:=HGS.out;omega) (by have:=HGS.out;omega)];exact HI.out.2.1
      . rw[ho (q+1) (by omega) (by have:=HGS.out;omega) (by have:=HGS.out;omega)];exact HI.out.2.2.1
      . have:=HI.out.2.2.2
        rw[<- HQ.out] at this |-
        exact this.trans hbs
      . exact AT ur hbs8
    . have hgb:((m:Int) != (t:Int) / 16)=AL:=by rw[bne_iff_ne,Q2.out];omega
      have HB0:Hid (¬ ∃ O,FrmL O/\DW O=l):=vJ (HBAD.out fun O hO=>by
       have h1:=dl hO.1 HIS.out;have h2:=hO.2;rw[h1] at h2;exact Ok (by rw[HM.out,h2,HT6.out]))
      have c2:=DB HK2.out;have c3:=DB HK3.out;have f2:=Fc HK2.out;have f3:=Fc HK3.out;clear Ok;refine wpIn_seq_k fun Kc hKc=>?_
      refine Ij rfl (by rintro⟨_,_,h⟩;exact h) ?_;go_wp2
      gi_wp2
      exact Tv HI.out HB8.out HB0.out HQ.out
  . have HB8:Hid (At W.heap.size W w8):=vJ (HB7.out.trans (hb8.mono HB7.out.size))
    have HB0:Hid (¬ ∃ O,FrmL O/\DW O=l):=vJ (HBAD.out fun O hO=>C6 O hO.1);clear hb8 C6 KD HBL HC7 HN6 HSRC HPB6 HPB;obtain⟨i1,i2,i3,i4⟩:=HI.out;have k2:=(HB8.out.block _ (Al.1 i2).1).trans i2;have k3:=(HB8.out.block _ (Al.1 i3).1).trans i3;have c2:=DB k2;have c3:=DB k3;have f2:=Fc k2;have f3:=Fc k3;clear i1 i2 i3 i4 k2 k3;refine wpIn_seq_k fun K9 hK9=>?_
    refine wpIn_seq_k fun Kc hKc=>?_
    refine Ij rfl (by rintro⟨_,_,h⟩;exact h) ?_;go_wp2
    gi_wp2
    exact Tv HI.out HB8.out HB0.out HQ.out
 case done=>
  rintro D xs W hD hS ⟨⟨v,E,ha,hb,hc⟩,hd,he,hf,_⟩ hK;obtain⟨ao',c',rfl⟩:=(ER.sl hc).shape;have c1:=DB ha;have c2:=DB hd;have c3:=DB he;have f2:=Fc hd;have f3:=Fc he;have h1:(W.setCell ⟨q,0,Y⟩ (Ak ao' E.length c')).heap[q]? =A (Ar #[Ak ao' E.length c'] 51 (0,0)):=Il hd;have h2:(W.setCell ⟨q,0,Y⟩ (Ak ao' E.length c')).heap[q+1]? =A (Ar #[H I 0] 33 (0,0)):=(Bq W ⟨q,0,Y⟩ (q+1) _ (by show q+1≠q;omega)).trans he;have c4:=DB h2;have f4:=Fc h2;have hDq:q+1<D:=by have:=HGS.out;omega
  obtain⟨V,hV⟩:=nm ((W.setCell ⟨q,0,Y⟩ (Ak ao' E.length c')).setCell ⟨q+1,0,Y⟩ (H I 0));have k1:V.heap[q]? =A (Ar #[Ak ao' E.length c'] 51 (0,0)):=by rw[hV];exact(Bq _ ⟨q+1,0,Y⟩ q _ (by show q≠q+1;omega)).trans h1
  have k2:V.heap[q+1]? =A (Ar #[H I 0] 33 (0,0)):=by rw[hV];exact Il h2
  have k3:V.heap[D]? =A (.deferred (A [])):=by
   rw[hV];exact(Bq _ ⟨q+1,0,Y⟩ D _ (by show D≠q+1;omega)).trans ((Bq W ⟨q,0,Y⟩ D _ (by show D≠q;omega)).trans hK)
  have hbV:At q w V:=by
   rw[hV];rw[HQ.out];exact(hf.setCell (p:=⟨w.heap.size,0,Y⟩) (AB _) _).setCell (p:=⟨w.heap.size+1,0,Y⟩) (by show w.heap.size<=w.heap.size+1;omega) _
  have HER:Hid (ER V w.heap.size 38 (Ak ao' E.length c') E):=vJ (by
   have h0:ER W w2.heap.size 38 (Ak ao' E.length c') E:=hc;have hg:∀ b,w2.heap.size<=b->V.heap[b]? =W.heap[b]? :=fun b hb'=>by
    have:=HGS.out;rw[hV];exact(Bq _ ⟨q+1,0,Y⟩ b _ (by show b≠q+1;omega)).trans (Bq W ⟨q,0,Y⟩ b _ (by show b≠q;omega))
   refine⟨h0.1,?_⟩;rcases h0.2 with h0| ⟨g,cap',cur,hv,XK,hh,r⟩
   . exact AN h0
   . exact Ba ⟨g,cap',cur,hv,AT HGB.out.size XK,(hg g XK).trans hh,r⟩)
  have HALL:Hid (FrmL E/\DW E=l):=vJ (by
   rw[hS] at hb;exact hb.all (by rw[<- HLL.out];omega))
  clear gs ha hb hc hd he hf hS h1 h2
  gi_wp2
  rw[<- hV];refine⟨by simp,AN ⟨_,_,rfl,run_takeDeferred k3,?_⟩⟩;have m1:(V.putObj D (.deferred Y)).heap[q]? =A (Ar #[Ak ao' E.length c'] 51 (0,0)):=(z.putObj_heap_other (by omega)).trans k1;have m2:(V.putObj D (.deferred Y)).heap[q+1]? =A (Ar #[H I 0] 33 (0,0)):=(z.putObj_heap_other (by omega)).trans k2;refine⟨_,MV rfl _ _ q (q+1) _ _ _ _ rfl rfl m1 m2,AN ⟨E,HALL.out.1,HALL.out.2,_,rfl,?_,?_⟩⟩
  . exact Wp HER.out (grownBy_putObj' V D _) (fun r e=>by cases e;exact⟨_,k3,rfl⟩)
  . rw[<- HQ.out]
    exact hbV.trans (belowK_b (w:=w2) (by have:=HGS.out;omega) V D _ _ hD k3 rfl rfl)
 case stop=>
  rintro D c pre W hD _ ⟨rfl,hb,hd,he,hf⟩ hK;have hDq:q+1<D:=by have:=HGS.out;omega
  clear gs
  gi_wp2
  refine⟨by simp,AN ⟨_,_,rfl,run_takeDeferred hK,?_⟩⟩;have m1:(W.putObj D (.deferred Y)).heap[q]? =A (Ar #[Ak Y 0 0] 51 (0,0)):=(z.putObj_heap_other (by omega)).trans hd;have m2:(W.putObj D (.deferred Y)).heap[q+1]? =A (Ar #[H I 3] 33 (0,0)):=(z.putObj_heap_other (by omega)).trans he;refine⟨_,MV rfl _ _ q (q+1) _ _ _ _ rfl rfl m1 m2,Ba ⟨hb,rfl,?_⟩⟩;rw[<- HQ.out] at hf |-
  exact hf.trans (belowK_b (w:=w2) (by have:=HGS.out;omega) W D _ _ hD hK rfl rfl)
theorem UM{w:z}{v:Aq}{l:List Int}(hs:BSl w v l)(hl:l.length<=100000)(M0:¬ l.length%16=0):AA Ae 67 #[v] w (gE l w):=by
 obtain⟨ao,cap,rfl,Cm⟩:=hs.shape;obtain⟨L,hL⟩:=nm l.length;obtain⟨r,hr⟩:=nm (L%16);have e1:(L:Int).tmod 16=(r:Int):=by rw[D9 (by omega)];omega
 have e2:(L:Int)%16=(r:Int):=by omega
 have e3:0<(r:Int):=by omega
 have HL:Hid (L<=100000):=vJ (by omega);have HNO:Hid (¬ ∃ O,FrmL O/\DW O=l):=vJ fun⟨O,a,b⟩=>M0 (by rw[<- b,DG a];omega)
 rw[<- hL];have Mu:L<=100000:=HL.out;have hb1:=Ay w (Ar #[Ak Y 0 0] 51);have hn1:=Aw w (Ar #[Ak Y 0 0] 51);have hs1:(w.alloc (Ar #[Ak Y 0 0] 51)).heap.size=w.heap.size+1:=z.size_alloc _ _;obtain⟨w1,hw1⟩:=nm (w.alloc (Ar #[Ak Y 0 0] 51));rw[<- hw1] at hb1 hn1 hs1;have hb2:=Ay w1 (Ar #[H I 0] 33);have Oh:=Aw w1 (Ar #[H I 0] 33);obtain⟨w2,GN⟩:=nm (w1.alloc (Ar #[H I 0] 33));rw[<- GN] at hb2 Oh;rw[hs1] at Oh;have k1:w2.heap[w.heap.size]? =A (Ar #[Ak Y 0 0] 51 (0,0)):=(hb2.block _ (by omega)).trans hn1;have HB:Hid (At w.heap.size w w2):=vJ (hb1.trans (hb2.mono (by omega)));have HW:Hid (((w.alloc (Ar #[Ak Y 0 0] 51)).alloc (Ar #[H I 0] 33))=w2):=vJ (by rw[<- hw1,<- GN]);have c2:=DB k1;have c3:=DB Oh;have f2:=Fc k1;have f3:=Fc Oh;have HK1:=vJ k1;have HK2:=vJ Oh;clear hs hl M0 hL hr hw1 GN hb1 hb2 hn1 Oh hs1 k1 Cm HL;refine(callsIn_wide (n:=9)).1 ?_;refine callsIn_of_wp_marks Tryz.func67 rfl trivial ?_ rfl;simp only[Tryz.ntmps67,List.size_toArray,Ch,List.length_nil,Nat.reduceAdd,Nat.reduceSub,Array.replicate_succ,Array.replicate_zero,List.push_toArray,List.append_toArray,B0,List.cons_append];refine wpIn_wide.2 ?_;go_upto_region 1 with(fail)
 rw[HW.out];go_wp2;have m1:((w2.setCell ⟨w.heap.size,0,Y⟩ (Ak Y 0 0)).setCell ⟨w.heap.size+1,0,Y⟩ (H I 3)).heap[w.heap.size]? =A (Ar #[Ak Y 0 0] 51 (0,0)):=(Bq _ ⟨w.heap.size+1,0,Y⟩ _ _ (by show w.heap.size≠w.heap.size+1;omega)).trans (Il HK1.out);have m2:((w2.setCell ⟨w.heap.size,0,Y⟩ (Ak Y 0 0)).setCell ⟨w.heap.size+1,0,Y⟩ (H I 3)).heap[w.heap.size+1]? =A (Ar #[H I 3] 33 (0,0)):=Il ((Bq _ ⟨w.heap.size,0,Y⟩ _ _ (by show w.heap.size+1≠w.heap.size;omega)).trans HK2.out);refine⟨_,MV rfl _ _ w.heap.size (w.heap.size+1) _ _ _ _ rfl rfl m1 m2,Ba ⟨HNO.out,rfl,?_⟩⟩;exact(HB.out.setCell (p:=⟨w.heap.size,0,Y⟩) (AB _) _).setCell (p:=⟨w.heap.size+1,0,Y⟩) (by show w.heap.size<=w.heap.size+1;omega) _
theorem WV{w:z}{v:Aq}{l:List Int}(hs:BSl w v l)(hl:l.length<=100000):AA Ae 67 #[v] w (gE l w):=by
 by_cases M0:l.length%16=0
 . exact SC hs hl M0
 . exact UM hs hl M0
theorem ER.more{w:z}{B B':Nat}{T:TypeId}{v:Aq}{O:List BC}(h:ER w B T v O)(hB:B'<=B):ER w B' T v O:=by
 refine⟨h.1,?_⟩;rcases h.2 with h| ⟨g,cap,cur,hv,hg,r⟩
 . exact AN h
 . exact Ba ⟨g,cap,cur,hv,AT hB hg,r⟩
def Yc(a b:ByteArray):Bool:=a.toList==b.toList
theorem eqS_iff{a b:ByteArray}:Yc a b=AL ↔ a=b:=by
 unfold Yc;rw[beq_iff_eq,Fg,Fg];exact⟨fun h=>ByteArray.ext (Array.ext' h),fun h=>by rw[h]⟩
def C4(l:List BC)(s:ByteArray):Nat:=l.findIdx fun e=>Yc e.2 s
def DU(l:List BC)(s:ByteArray):Int:=if C4 l s<l.length then (C4 l s:Int) else -1
theorem idxN_none{l:List BC}{s:ByteArray}:C4 l s=l.length ↔ ∀ e∈l,e.2≠s:=by
 unfold C4;rw[List.findIdx_eq_length];constructor
 . intro h e he k
   have:=h e he;rw[eqS_iff.2 k] at this;cases this
 . intro h e he
   cases c:Yc e.2 s
   . rfl
   . exact absurd (eqS_iff.1 c) (h e he)
theorem aU{l:List BC}{s:ByteArray}{k:Nat}(hk:k<l.length)(h1:Yc (l.getD k default).2 s=AL)(h2:∀ j,j<k->Yc (l.getD j default).2 s=AI):DU l s=(k:Int):=by
 have e:C4 l s=k:=by
  unfold C4;rw[List.findIdx_eq hk];refine⟨by rw[EY _ hk] at h1;exact h1,fun j hj=>?_⟩;have:=h2 j hj;rw[EY _ (by omega)] at this;exact this
 unfold DU;rw[e,AC hk]
theorem TR{l:List BC}{s:ByteArray}(h2:∀ j,j<l.length->Yc (l.getD j default).2 s=AI):DU l s= -1:=by
 have e:C4 l s=l.length:=idxN_none.2 fun e he k=>by
  obtain⟨j,hj,rfl⟩:=BW he;have:=h2 j hj;rw[EY _ hj,eqS_iff.2 k] at this;cases this
 unfold DU;rw[e,AE (Nat.lt_irrefl _)]
theorem Wj(x:BC)(s:ByteArray){bx:Nat}{w:z}(hc:w.cell? ⟨bx,0,Y⟩=A (.string s))(hb:bx<w.heap.size):AA Ae 70 #[BD #[H I x.1,.string x.2],Am (A ⟨bx,0,Y⟩)] w fun e w'=>e=Ag (A1 (Yc x.2 s))/\At w.heap.size w w':=by
 obtain⟨i,t⟩:=x;have c1:(w.alloc (Ar #[H I i,.string t] 38)).cell? ⟨bx,0,Y⟩=A (.string s):=((Ay w _).cell (p:=⟨bx,0,Y⟩) hb).trans hc;obtain⟨c,hcc⟩:=nm (Yc t s);have hq:(t.toList==s.toList)=c:=hcc.symm;show AA Ae 70 _ w fun e w'=>e=Ag (A1 (Yc t s))/\_
 rw[<- hcc];clear hcc;go_enter Tryz.func70,Tryz.ntmps70;go_wp2;go_ret;exact⟨rfl,Ay w _⟩
theorem eB{w:z}{v:Aq}{l:List BC}(hs:ESl w v l)(hl:l.length<=1000000)(s:ByteArray){bx:Nat}(hc:w.cell? ⟨bx,0,Y⟩=A (.string s))(hb:bx<w.heap.size):
 AA Ae 69 #[v,.func (.func 70) #[] #[Am (A ⟨bx,0,Y⟩)]] w fun e w'=>e=Ag (H I (DU l s))/\At w.heap.size w w':=by
 obtain⟨ao,cap,rfl,FU⟩:=hs.open';obtain⟨n,hn⟩:=nm l.length
 have HK:Hid (∀ (W:z) (k:Nat),At w.heap.size w W->k<n->∃ b off i t,ao=A ⟨b,off,Y⟩/\W.cell? ⟨b,off+k*2,Y⟩=A (H I i)/\W.cell? ⟨b,off+k*2+1,Y⟩=A (.string t)/\t=(l.getD k default).2/\
  AA Ae 70 #[BD #[H I i,.string t],Am (A ⟨bx,0,Y⟩)] W fun e w'=>e=Ag (A1 (Yc t s))/\At w.heap.size w w'):=vJ fun W k hW hk=>by
  obtain⟨b,off,e,hlt,hc2⟩:=FU (by omega);obtain⟨a1,a2⟩:=hc2 k (by omega);refine⟨b,off,_,_,e,(hW.cell (p:=⟨b,off+k*2,Y⟩) hlt).trans a1,(hW.cell (p:=⟨b,off+k*2+1,Y⟩) hlt).trans a2,rfl,?_⟩;exact(Wj (l.getD k default) s ((hW.cell (p:=⟨bx,0,Y⟩) hb).trans hc) (AH hb hW.size)).mono fun e w' ⟨he,h2⟩=>⟨he,hW.trans (h2.mono hW.size)⟩
 have HN:=vJ hn;rw[<- hn] at hl |-
 clear hs FU hc hb hn;go_enter Tryz.func69,Tryz.ntmps69;go_wp2;go_loopw [5,8] (fun _ s8 wr=>∃ k:Nat,k<=n/\s8=H I k/\Hid (∀ j,j<k->Yc (l.getD j default).2 s=AI)/\Hid (At w.heap.size w wr)) (fun _ s8 _=>n-(intOf s8).toNat)
 case atStart=>exact⟨0,AX _,rfl,vJ fun j hj=>absurd hj (A8 j),vJ (AM _ _)⟩
 case round=>
  obtain⟨k,hk,rfl,HA,HB⟩:=hrel;by_cases hlt:k<n
  . have J6:(k:Int)<(n:Int):=by omega
    obtain⟨b,off,i,t,rfl,c1,c2,ht,JH⟩:=HK.out wr k HB.out hlt;have KC:=vJ JH;have HT:=vJ ht;have HKK:=HK;clear JH ht HK;cases hq:Yc t s
    . rw[hq] at KC
      have HQ:=vJ hq;clear hq;go_wp2_with (go_at_call 70;(with_reducible refine KC.out.mono ?_);rintro e w3 ⟨rfl,hb3⟩)
      go_roundw
      case rel=>exact⟨k+1,by omega,by go_num,vJ fun j hj=>(by
       rcases Nat.lt_or_eq_of_le (Nat.le_of_lt_succ hj) with h|h
       . exact HA.out j h
       . rw[h,<- HT.out];exact HQ.out),vJ hb3⟩
      case measure=>simp[intOf];omega
    . rw[hq] at KC
      have HI:Hid (DU l s=(k:Int)):=vJ (aU (by have:=HN.out;omega) (by rw[<- HT.out];exact hq) HA.out);clear hq;go_wp2_with (go_at_call 70;(with_reducible refine KC.out.mono ?_);rintro e w3 ⟨rfl,hb3⟩)
      go_ret;exact⟨by rw[HI.out];rfl,hb3⟩
  . obtain rfl:k=n:=by omega
    have HI:Hid (DU l s= -1):=vJ (TR fun j hj=>HA.out j (by have:=HN.out;omega));go_wp2;go_ret;exact⟨by rw[HI.out];rfl,HB.out⟩
theorem JT{w:z}{v:Aq}{l:List BC}(hs:ESl w v l)(hl:l.length<=1000000)(s:ByteArray):AA Ae 32 #[v,.string s] w fun e w'=>e=Ag (H I (DU l s))/\At w.heap.size w w':=by
 obtain⟨ao,cap,rfl⟩:=hs.shape;obtain⟨n,hn⟩:=nm l.length;have hb1:=Ay w (Ar #[.string s] 9);have hn1:=Aw w (Ar #[.string s] 9);have K:=vJ (eB (hs.below hb1) hl s (bx:=w.heap.size) (by rw[Az _ _ _ _ _ _ hn1];rfl) (Al.1 hn1).1);have HB:=vJ hb1;rw[<- hn] at K |-
 clear hs hl hn hb1 hn1;go_enter Tryz.func32,Tryz.ntmps32;go_wp2_with (go_at_call 69;(with_reducible refine K.out.mono ?_);rintro e w3 ⟨rfl,hb3⟩)
 go_ret;exact⟨rfl,HB.out.trans (hb3.mono HB.out.size)⟩
section
variable {w:z}{P:Nat->Prop}{d p:Aq}{X:XSt}{S:List Int}{N:List (List Int)}{O:List (Int × Int)}{kk:Nat}{F:Nat->List Int}{bf n sz:Nat}{M:Nat->Option (List Int)}
theorem SN(h:Frd w P d p X S N O kk F bf)(ft:Fat X.cur N F n sz M)(hk:Ca N n=2)(h1:1<=n)(Bu:n<48):
 AA Ae 30 #[Am (A ⟨bf,0,Y⟩),H I n] w (gE (Md M 0 sz) w):=by
 have KG0:=GM (W:=w) h.inv h.fs h.tab h1 Bu (AM _ _);have hx:=h.tab.n.get Bu;have hz:=ft.zs;have lT:=ft.sb;have KR:Hid (∀ V,At w.heap.size w V->AA Ae 38 #[Am (A ⟨bf,0,Y⟩),H I n,H I 0,H I sz] V fun e w'=>∃ ao c,e=Ag (AO #[Ak ao sz c,H I 0])/\BSl w' (Ak ao sz c) (Md M 0 sz)/\At V.heap.size V w'):=vJ fun V hV=>by
  refine(Tn (h.low hV) ft h1 Bu (a:=0) (m:=sz) (by omega) (by omega)).mono ?_;rintro e w' ⟨v,he,hv,hb⟩;rw[show min sz (sz-0)=sz by omega] at hv;obtain⟨ao,c,rfl,_⟩:=hv.bsl.shape;have ic:=hv.bsl;rw[Ek] at he ic;exact⟨ao,c,he,ic,hb⟩
 unfold Ca at hk;unfold num at hz;generalize N.getD n []=x at KG0 hx hk hz;obtain⟨kd,ln,sz',d0,d1,d2,d3,d4,d5,d6,d7,d8,d9,mp,rfl⟩:=JU hx;have XT:kd=2:=hk;have u7:sz'=(sz:Int):=hz;subst XT;subst u7;have KG:Hid (AA Ae 37 #[Am (A ⟨bf,0,Y⟩),H I n] w fun e w'=>e=Ag (AO #[BD #[H I 2,H I ln,H I sz,H I d0,H I d1,H I d2,H I d3,H I d4,H I d5,H I d6,H I d7,H I d8,H I d9,H I mp],H I 0])/\At w.heap.size w w'):=vJ KG0;have KD:Hid (∀ (V:z) (v:Aq),BSl V v (Md M 0 sz)->AA Ae 67 #[v] V (gE (Md M 0 sz) V)):=vJ fun V v hv=>WV hv (by rw[Ek];omega)
 clear KG0 h hx hk hz ft lT;go_enter Tryz.func30,Tryz.ntmps30
 go_wp2_with (first
  |(go_at_call 37;refine KG.out.mono ?_;rintro e w2 ⟨rfl,hb2⟩
    have hb3:=hb2.trans ((Ay w2 (Ar #[H I 2,H I ln,H I sz,H I d0,H I d1,H I d2,H I d3,H I d4,H I d5,H I d6,H I d7,H I d8,H I d9,H I mp] 80)).mono hb2.size))
  |(go_at_call 38;refine(KR.out _ hb3).mono ?_;rintro e w4 ⟨ao,c,rfl,hv4,hb4⟩;have hb5:=hb3.trans (hb4.mono hb3.size))
  |(go_at_call 67;refine(KD.out _ _ hv4).mono ?_;rintro e w6 (⟨D,q1,q2,v,rfl,q3,q4⟩| ⟨q1,rfl,q4⟩);(obtain⟨uo,uc,rfl⟩:=q3.sl.shape)))
 . go_ret2
   exact AN ⟨D,q1,q2,_,rfl,q3.more hb5.size,hb5.trans (q4.mono hb5.size)⟩
 . go_ret2
   exact Ba ⟨q1,rfl,hb5.trans (q4.mono hb5.size)⟩
end
theorem kE{l m:List BC}(hl:FrmL l)(hm:FrmL m)(h:DW l=DW m):l=m:=by
 have e:=BH List.length h;rw[DG hl,DG hm] at e;apply Bi (by omega);intro i h1 h2;have a:=Le hl h1;have b:=Le hm h2;rw[h,b] at a;rw[<- Nv (hl _ (Bf h1)),<- Nv (hm _ (Bf h2)),a]
theorem Q4{i:Nat}:∀ (l:List Int) (M:Nat->Option (List Int)) (a:Nat),(wrL M a l i).isSome=AL->(M i).isSome=AL\/∃ j,j<l.length/\i=(a+j) / 256
 |[],_,_,h=>AN h
 |v :: l,M,a,h=>by
  rcases Q4 l (wr1 M a v) (a+1) h with h1| ⟨j,h1,h2⟩
  . unfold wr1 at h1
    by_cases e:i=a / 256
    . exact Ba ⟨0,by simp,by simpa using e⟩
    . rw[FW _ e] at h1;exact AN h1
  . exact Ba ⟨j+1,by simp;omega,by rw[h2];congr 1;omega⟩
structure DirN (sz:Nat) (M:Nat->Option (List Int)) (l:List BC):Prop where
 f:DirF sz M l
 hi:∀ i,sz<=256*i->M i=Y
section
variable {sz:Nat}{M:Nat->Option (List Int)}{l:List BC}
theorem DirN.nil{M:Nat->Option (List Int)}(h:OkB M)(h2:∀ i,M i=Y):DirN 0 M []:=⟨DirF.nil h,fun i _=>h2 i⟩
theorem RV(M:Nat->Option (List Int))(a:Nat)(l:List Int){i:Nat}(h:M i=Y)(h2:∀ j,j<l.length->i≠(a+j) / 256):wrL M a l i=Y:=by
 cases e:wrL M a l i with
 |none=>rfl
 |some x=>
  exfalso;rcases Q4 l M a (i:=i) (by rw[e];rfl) with k| ⟨j,k1,k2⟩
  . rw[h] at k;cases k
  . exact h2 j k1 k2
theorem DirN.add(h:DirN sz M l){e:BC}(he:C3 e=AL):DirN (16*(l.length+1)) (wrL M sz (Db e)) (l ++ [e]):=by
 refine⟨h.f.add he,fun i hi=>RV _ _ _ (h.hi i (by have:=h.f.zs;omega)) fun j hj=>?_⟩;rw[Di (CF he).2] at hj;have:=h.f.zs;omega
theorem bR(f:Nat->Int):∀ n,I5 f n<=n
 |0=>AB 0
 |n+1=>by
  have:=bR f n;rw[I5];split <;> omega
theorem Tm(f:Nat->Int){k:Nat}(h:∀ i,k<=i->f i=0):∀ n,I5 f n<=k
 |0=>AX _
 |n+1=>by
  by_cases c:n<k
  . have:=bR f (n+1);omega
  . have:=Tm f h n
    rw[I5,h n (by omega),AE (by simp)];omega
theorem S4{k:Nat}(h:∀ i,k<=i->M i=Y)(hk:k<=10):DL M<=k:=by
 unfold DL;have h1:=Tm (Rv M) (k:=k) (fun i hi=>by unfold Rv;rw[h i hi];rfl) 138;rw[H6 138 fun⟨b,b1,b2,b3⟩=>by rw[h b (by omega)] at b3;cases b3];omega
theorem DirN.used(h:DirN sz M l){k:Nat}(hk:l.length<=16*k)(XE:k<=10):DL M<=k:=S4 (fun i hi=>h.hi i (by have:=h.f.zs;omega)) XE
end
section
variable {w:z}{P:Nat->Prop}{d p:Aq}{X:XSt}{S:List Int}{N:List (List Int)}{O:List (Int × Int)}{kk:Nat}{F:Nat->List Int}{bf n sz:Nat}{M:Nat->Option (List Int)}{Q:List Int}{l:List BC}
theorem GJ(h:Frd w P d p X S N O kk F bf)(ft:Fat X.cur N F n sz M)(hk:Ca N n=2)(h1:1<=n)(Bu:n<48)(hd:DirF sz M l):
 AA Ae 30 #[Am (A ⟨bf,0,Y⟩),H I n] w fun e w'=>∃ v,e=Ag (AO #[v,H I 0])/\ER w' w.heap.size 38 v l/\At w.heap.size w w':=by
 refine(SN h ft hk h1 Bu).mono ?_;rintro e w' (⟨D,q1,q2,v,he,q3,q4⟩| ⟨q1,_,_⟩)
 . obtain rfl:=kE q1 hd.frm (q2.trans hd.by_)
   exact⟨v,he,q3,q4⟩
 . exact absurd ⟨l,hd.frm,hd.by_.symm⟩ q1
theorem FlO.pre{w0:z}{k:Nat}{sz':Nat}{M':Nat->Option (List Int)}{R:(Nat->Prop)->XSt->List (List Int)->(Nat->List Int)->List Int->Prop}{w':z}(hb:At w0.heap.size w0 w)(h:FlO w P d p X S N O kk F bf n Q sz' M' k R w'):FlO w0 P d p X S N O kk F bf n Q sz' M' k R w':=by
 obtain⟨P',X',N',O',F',Q',a,b,c,e,f,g⟩:=h;exact⟨P',X',N',O',F',Q',a,b,c,e,(Chg.of_below hb).trans f,g⟩
theorem FlE.pre{w0 w':z}(hb:At w0.heap.size w0 w)(h:FlE w P d p X S kk bf w'):FlE w0 P d p X S kk bf w':=by
 obtain⟨P',X',N',O',F',a,b,c⟩:=h;exact⟨P',X',N',O',F',a,b,(Chg.of_below hb).trans c⟩
def WrE(w:z)(P:Nat->Prop)(d p:Aq)(X:XSt)(S:List Int)(N:List (List Int))(O:List (Int × Int))(kk:Nat)(F:Nat->List Int)(bf n sz:Nat)(M:Nat->Option (List Int))(Q:List Int)(a:Nat)(x:BC)(e:Ending)(w':z):Prop:=
 (e=Ag (H I 0)/\Fp O kk M (wrL M (16*a) (Db x))/\FlO w P d p X S N O kk F bf n Q (max sz (16*a+16)) (wrL M (16*a) (Db x)) 2 R5 w')\/
 (e=Ag (H I 13)/\¬ Fp O kk M (wrL M (16*a) (Db x))/\FlE w P d p X S kk bf w')
theorem MK(h:Flt w P d p X S N O kk F bf n sz M Q)(h1:1<=n)(Bu:n<48)(hQ:Q.length<=32){a:Nat}(ha:16*a+16<=35328){x:BC}(hx:C3 x=AL):
 AA Ae 33 #[Am (A ⟨bf,0,Y⟩),H I n,H I a,BD #[H I x.1,.string x.2]] w (WrE w P d p X S N O kk F bf n sz M Q a x):=by
 have M0:=Di (CF hx).2;have hall:La [x]=AL:=QE (by rw[List.length_singleton];decide) fun y hy=>by rw[Et.1 hy];exact hx
 have KE:Hid (∀ (V:z) (v:Aq),ESl V v [x]->AA Ae 71 #[v] V fun e w'=>∃ g cap,e=Ag (AO #[Ak (A ⟨g,0,Y⟩) 256 cap,H I 0])/\16<=cap/\V.heap.size<=g/\BSl w' (Ak (A ⟨g,0,Y⟩) 16 cap) (Db x)/\At V.heap.size V w'):=vJ fun V v hv=>by
  refine(Nm hv).mono ?_;rintro e w' (⟨_,u,he,hu,hb⟩| ⟨C6,_⟩)
  . have hl:(Kf [x]).length=256:=Pn hall
    obtain⟨hb1,hb2,hb3⟩:=hu;rcases hb3 with⟨_,e2⟩| ⟨g,cap,cur,rfl,hg,hh,Hn,LD,Hb,ht⟩
    . rw[hl] at e2;cases e2
    . rw[hl] at he Hn
      have hbs:=OB.bsl (B:=V.heap.size) (v:=Ak (A ⟨g,0,Y⟩) (Kf [x]).length cap) (l:=Kf [x]) ⟨hb1,hb2,Ba ⟨g,cap,cur,rfl,hg,hh,by rw[hl];exact Hn,LD,Hb,ht⟩⟩;have hm:=hbs.mid 0 16 (by omega);have e3:((Kf [x]).drop 0).take 16=Db x:=by
       unfold Kf;rw[CP,List.flatMap_singleton,Dl M0]
      rw[e3] at hm;exact⟨g,cap,he,by omega,hg,hm,hb⟩
  . rw[hall] at C6;cases C6
 have KW:Hid (∀ (V:z) (g cap:Nat),At w.heap.size w V->w.heap.size<=g->BSl V (Ak (A ⟨g,0,Y⟩) 16 cap) (Db x)->AA Ae 22 #[Am (A ⟨bf,0,Y⟩),H I n,H I ((16*a:Nat):Int),Ak (A ⟨g,0,Y⟩) 16 cap] V fun e w'=>∃ (y er:Int),e=Ag (AO #[H I y,H I er])/\WrE w P d p X S N O kk F bf n sz M Q a x (Ag (H I er)) w'):=vJ fun V g cap hV hg hv=>by
  have XD:Jq (16*a) 16=1:=by unfold Jq;rw[AE (by decide)];omega
  refine(Rh (h.low hV) h1 Bu hv (Apt.new fun hp=>by have:=h.md.inv.lt _ hp;omega) (a:=16*a) (C:=16) (by rw[M0];rfl) (by omega) (by rw[XD];omega) ha).mono ?_;unfold vF;rw[show(Db x).take 16=Db x from AV (by omega)];rintro e w' (⟨he,hf,ho⟩| ⟨he,hf,ho⟩)
  . rw[AE (by decide),XD] at ho
    exact⟨_,_,he,AN ⟨rfl,hf,ho.pre hV⟩⟩
  . exact⟨_,_,he,Ba ⟨rfl,hf,ho.pre hV⟩⟩
 obtain⟨i,s⟩:=x;have hb1:=Ay w (Ar #[H I i,.string s] 38);have hn1:=Aw w (Ar #[H I i,.string s] 38);obtain⟨w1,hw1⟩:=nm (w.alloc (Ar #[H I i,.string s] 38));rw[<- hw1] at hb1 hn1;have H1:Hid (w.alloc (Ar #[H I i,.string s] 38)=w1):=vJ hw1.symm;have c1:w1.cell? ⟨w.heap.size,0,Y⟩=A (H I i):=by rw[Az _ _ _ _ _ _ hn1];rfl
 have c2:w1.cell? ⟨w.heap.size,1,Y⟩=A (.string s):=by rw[Az _ _ _ _ _ _ hn1];rfl
 have hb2:At w.heap.size w (w1.alloc (Ar #[H I i,.string s] 38)):=hb1.trans ((Ay w1 _).mono hb1.size);have mf:ESl (w1.alloc (Ar #[H I i,.string s] 38)) (Ak (A ⟨w1.heap.size,0,Y⟩) 1 1) [(i,s)]:=by
  have Oh:=Aw w1 (Ar #[H I i,.string s] 38);refine Ba ⟨_,1,rfl,fun j hj=>⟨(Al.1 Oh).1,rfl,?_⟩⟩;obtain rfl:j=0:=by simp at hj;omega
  rw[Az _ _ _ _ _ _ Oh,Az _ _ _ _ _ _ Oh];exact⟨rfl,rfl⟩
 have KE1:=vJ (KE.out _ _ mf);have HB2:=vJ hb2;have SG:((16*a:Nat):Int)=(a:Int)*16:=by omega
 have JG:I.wrap ((a:Int)*16)=(a:Int)*16:=A9 _ (by omega);have J7:(a:Int)*16<=35328:=by omega
 have KW1:Hid (∀ (V:z) (g cap:Nat),At w.heap.size w V->w.heap.size<=g->BSl V (Ak (A ⟨g,0,Y⟩) 16 cap) (Db (i,s))->AA Ae 22 #[Am (A ⟨bf,0,Y⟩),H I n,H I ((a:Int)*16),Ak (A ⟨g,0,Y⟩) 16 cap] V fun e w'=>∃ (y er:Int),e=Ag (AO #[H I y,H I er])/\WrE w P d p X S N O kk F bf n sz M Q a (i,s) (Ag (H I er)) w'):=vJ (by rw[<- SG];exact KW.out);clear KE KW h h1 Bu hQ ha hx M0 hall hn1 hw1 hb1 hb2 mf SG;go_enter Tryz.func33,Tryz.ntmps33;go_upto_region 1 with(fail)
 rw[H1.out]
 go_wp2_with (first
  |(go_at_call 71;(with_reducible refine KE1.out.mono ?_);rintro e w3 ⟨g,cap,rfl,Cm,hg,hv3,hb3⟩;have hs3:=RG 0 0 0 16 (by decide);clear hs3;have hsl:=RG g 0 256 cap Cm;have HB3:=vJ (HB2.out.trans (hb3.mono HB2.out.size));have HG:Hid (w.heap.size<=g):=vJ (AT HB2.out.size hg);have HV3:=vJ hv3;have KW3:=vJ (KW1.out _ g cap HB3.out HG.out HV3.out);clear hv3 hb3 hg)
  |(go_at_call 22;(with_reducible refine KW3.out.mono ?_);rintro e w4 ⟨y,er,rfl,hw4⟩))
 go_ret;exact hw4
end
theorem ER.cell2{w:z}{B:Nat}{v:Aq}{l:List BC}(h:ER w B 38 v l){j:Nat}(hj:j<l.length):∃ b cap,v=Ak (A ⟨b,0,Y⟩) l.length cap/\∀ W,At w.heap.size w W->W.cell? ⟨b,j*2,Y⟩=A (H I (l.getD j default).1)/\W.cell? ⟨b,j*2+1,Y⟩=A (.string (l.getD j default).2):=by
 rcases h.2 with⟨_,e⟩| ⟨g,cap,cur,hv,hg,hh,Hn,LD,Hb,ht⟩
 . omega
 . refine⟨g,cap,hv,fun W hW=>?_⟩
   have hr:RwE w g (cap*2) l:=⟨cur,hh,Hb,ht,by omega⟩;exact(hr.below hW).cells hj
theorem ER.row{w:z}{B:Nat}{v:Aq}{l:List BC}(h:ER w B 38 v l):(v=Ak Y 0 0/\l=[])\/∃ g cap,v=Ak (A ⟨g,0,Y⟩) l.length cap/\B<=g/\RwE w g (cap*2) l:=by
 rcases h.2 with⟨a,e⟩| ⟨g,cap,cur,hv,hg,hh,Hn,LD,Hb,ht⟩
 . exact AN ⟨a,Bb e⟩
 . exact Ba ⟨g,cap,hv,hg,cur,hh,Hb,ht,by omega⟩
theorem ah(w:z):AA Ae 129 #[Ak Y 0 0,H I 0,H I 0,Fy] w fun e w'=>e=Ag (AO #[])/\w=w':=by
 go_enter Tryz.func129,Tryz.ntmps129;go_wp2;go_loopw [8] (fun s wr=>s=H I 1/\w=wr) (fun _ _=>0)
 case atStart=>exact⟨rfl,rfl⟩
 case round=>
  obtain⟨rfl,rfl⟩:=hrel;go_wp2
  go_end0
  exact⟨rfl,rfl⟩
theorem SD(w:z):AA Ae 86 #[Ak Y 0 0,H I 0,Fy] w fun e w'=>e=Ag (AO #[])/\w=w':=by
 have K:=vJ (ah w);go_enter Tryz.func86,Tryz.ntmps86;go_wp2;go_loopw [7,8] (fun s t wr=>s=H I 0/\t=H I 20/\w=wr) (fun _ _ _=>0)
 case atStart=>exact⟨rfl,rfl,rfl⟩
 case round=>
  obtain⟨rfl,rfl,rfl⟩:=hrel;go_wp2_with (go_at_call 129;(with_reducible refine K.out.mono ?_);rintro e w3 ⟨rfl,rfl⟩)
  go_loopw [6] (fun s wr=>s=H I 20/\w=wr) (fun _ _=>0)
  case atStart=>exact⟨rfl,rfl⟩
  case round=>
   obtain⟨rfl,rfl⟩:=hrel;go_wp2
   go_end0
   exact⟨rfl,rfl⟩
theorem gc(w:z):AA Ae 43 #[Ak Y 0 0,Fy] w fun e w'=>e=Ag (AO #[])/\w=w':=by
 have K:=vJ (SD w);go_enter Tryz.func43,Tryz.ntmps43;go_wp2_with (go_at_call 86;(with_reducible refine K.out.mono ?_);rintro e w3 ⟨rfl,rfl⟩)
 go_end0
 exact⟨rfl,rfl⟩
theorem RJ{w:z}{B:Nat}{v:Aq}{l:List BC}(h:ER w B 38 v l)(hl:l.length<=1000000):AA Ae 43 #[v,Fy] w fun e w'=>e=Ag (AO #[])/\∃ Z,Z.Perm l/\Ord Z/\ESl w' v Z/\At (min B w.heap.size) w w':=by
 rcases h.row with⟨rfl,rfl⟩| ⟨g,cap,rfl,hg,hr⟩
 . exact(gc w).mono fun e w' ⟨he,hw⟩=>⟨he,[],List.Perm.refl _,Ord.nil,UH _,by rw[<- hw];exact AM _ _⟩
 . refine(jq hr rfl hl).mono ?_
   rintro e w' ⟨he,⟨Z,z1,z2,z3⟩,hc⟩;refine⟨he,Z,z1,z2,by rw[<- z1.length_eq];exact z3.esl cap,hc.below fun k hk=>⟨by omega,by omega⟩⟩
def K5(l:List BC)(s:ByteArray):Int:=if C4 l s<l.length then (l.getD (C4 l s) default).1 else 0
def JR(l:List BC)(s:ByteArray):Int:=if C4 l s<l.length then 0 else 4
section
variable {w:z}{P:Nat->Prop}{d p:Aq}{X:XSt}{S:List Int}{N:List (List Int)}{O:List (Int × Int)}{kk:Nat}{F:Nat->List Int}{bf n sz:Nat}{M:Nat->Option (List Int)}{Q:List Int}{l:List BC}
theorem DirF.len(h:DirF sz M l)(hs:sz<=35328):l.length<=2208:=by have:=h.zs;omega
theorem Y9(h:Frd w P d p X S N O kk F bf)(ft:Fat X.cur N F n sz M)(hk:Ca N n=2)(h1:1<=n)(Bu:n<48)(hd:DirF sz M l)(s:ByteArray):
 AA Ae 16 #[Am (A ⟨bf,0,Y⟩),H I n,.string s] w fun e w'=>e=Ag (AO #[H I (K5 l s),H I (JR l s)])/\At w.heap.size w w':=by
 have hlen:=hd.len ft.sb;have KR:=vJ (GJ h ft hk h1 Bu hd);have KX:Hid (∀ (V:z) (v:Aq),ESl V v l->AA Ae 32 #[v,.string s] V fun e w'=>e=Ag (H I (DU l s))/\At V.heap.size V w'):=vJ fun V v hv=>JT hv (by omega) s
 obtain⟨m,hm⟩:=nm l.length;have HM:=vJ hm;by_cases hx:C4 l s<l.length
 . obtain⟨k,I3⟩:=nm (C4 l s)
   have e1:K5 l s=(l.getD k default).1:=(by unfold K5;rw[AC hx,I3]);have e2:JR l s=0:=(by unfold JR;rw[AC hx]);have e3:DU l s=(k:Int):=(by unfold DU;rw[AC hx,I3]);rw[e3] at KX;rw[e1,e2];have oF:k<m:=(by omega);have sW:(k:Int)<(m:Int):=(by omega);have hmb:m<=2208:=(by omega);have HCE:Hid (∀ (V:z) (v:Aq),ER V w.heap.size 38 v l->∃ b cap,v=Ak (A ⟨b,0,Y⟩) m cap/\∀ W,At V.heap.size V W->W.cell? ⟨b,k*2,Y⟩=A (H I (l.getD k default).1)):=vJ fun V v hv=>by
    obtain⟨b,cap,e,hc⟩:=hv.cell2 (j:=k) (by omega);exact⟨b,cap,by rw[hm];exact e,fun W hW=>(hc W hW).1⟩
   generalize (l.getD k default).1=y at HCE |-
   clear h ft hk h1 Bu hd hlen hm hx I3 e1 e2 e3;go_enter Tryz.func16,Tryz.ntmps16
   go_wp2_with (first
    |(go_at_call 30;(with_reducible refine KR.out.mono ?_);rintro e w2 ⟨v,rfl,hv,hb2⟩;obtain⟨b,cap,rfl,hc⟩:=HCE.out _ _ hv;have KX2:=vJ (KX.out _ _ hv.sl);have HC:=vJ hc;have HB2:=vJ hb2;clear hv hc hb2)
    |(go_at_call 32;(with_reducible refine KX2.out.mono ?_);rintro e w3 ⟨rfl,hb3⟩;have c0:=HC.out _ hb3))
   go_ret2;exact⟨rfl,HB2.out.trans (hb3.mono HB2.out.size)⟩
 . have e1:K5 l s=0:=by unfold K5;rw[AE hx]
   have e2:JR l s=4:=(by unfold JR;rw[AE hx]);have e3:DU l s= -1:=(by unfold DU;rw[AE hx]);rw[e3] at KX;rw[e1,e2];clear h ft hk h1 Bu hd hlen hm hx e1 e2 e3;go_enter Tryz.func16,Tryz.ntmps16
   go_wp2_with (first
    |(go_at_call 30;(with_reducible refine KR.out.mono ?_);rintro e w2 ⟨v,rfl,hv,hb2⟩;obtain⟨ao,cap,rfl⟩:=hv.sl.shape;have KX2:=vJ (KX.out _ _ hv.sl);have HB2:=vJ hb2;clear hv hb2)
    |(go_at_call 32;(with_reducible refine KX2.out.mono ?_);rintro e w3 ⟨rfl,hb3⟩))
   go_ret2;exact⟨rfl,HB2.out.trans (hb3.mono HB2.out.size)⟩
theorem WrE.pre{w0:z}{a:Nat}{x:BC}{e:Ending}{w':z}(hb:At w0.heap.size w0 w)(h:WrE w P d p X S N O kk F bf n sz M Q a x e w'):WrE w0 P d p X S N O kk F bf n sz M Q a x e w':=by
 rcases h with⟨a,b,c⟩| ⟨a,b,c⟩
 . exact AN ⟨a,b,c.pre hb⟩
 . exact Ba ⟨a,b,c.pre hb⟩
theorem WrE.ret{a:Nat}{x:BC}{e:Ending}{w':z}(h:WrE w P d p X S N O kk F bf n sz M Q a x e w'):∃ er,e=Ag (H I er):=by
 rcases h with⟨a,_⟩| ⟨a,_⟩
 . exact⟨_,a⟩
 . exact⟨_,a⟩
def vA(w:z)(P:Nat->Prop)(d p:Aq)(X:XSt)(S:List Int)(N:List (List Int))(O:List (Int × Int))(kk:Nat)(F:Nat->List Int)(bf n sz:Nat)(M:Nat->Option (List Int))(Q:List Int)(l:List BC)(x:BC)(e:Ending)(w':z):Prop:=
 (C3 x=AI/\e=Ag (H I 1)/\At w.heap.size w w')\/(C3 x=AL/\C4 l x.2<l.length/\e=Ag (H I 5)/\At w.heap.size w w')\/
 (C3 x=AL/\¬ C4 l x.2<l.length/\WrE w P d p X S N O kk F bf n sz M Q l.length x e w')
theorem dm(h:Flt w P d p X S N O kk F bf n sz M Q)(hk:Ca N n=2)(h1:1<=n)(Bu:n<48)(hQ:Q.length<=32)(hd:DirF sz M l)(hl:l.length<2208)(x:BC):
 AA Ae 10 #[Am (A ⟨bf,0,Y⟩),H I n,BD #[H I x.1,.string x.2]] w (vA w P d p X S N O kk F bf n sz M Q l x):=by
 obtain⟨i,s⟩:=x;have hb1:=Ay w (Ar #[H I i,.string s] 38);have hn1:=Aw w (Ar #[H I i,.string s] 38);obtain⟨w1,hw1⟩:=nm (w.alloc (Ar #[H I i,.string s] 38));rw[<- hw1] at hb1 hn1;have H1:Hid (w.alloc (Ar #[H I i,.string s] 38)=w1):=vJ hw1.symm;have HCB:Hid (∀ W,At w1.heap.size w1 W->W.cell? ⟨w.heap.size,0,Y⟩=A (H I i)/\W.cell? ⟨w.heap.size,1,Y⟩=A (.string s)):=vJ fun W hW=>by
  have:=(hW.block _ (Al.1 hn1).1).trans hn1;rw[Az _ _ _ _ _ _ this,Az _ _ _ _ _ _ this];exact⟨rfl,rfl⟩
 have Qv:Fat X.cur N F n sz M:=by rw[h.md.cur];exact h.ft
 have KR:=vJ (GJ (h.md.low hb1).rd Qv hk h1 Bu hd);have KX:Hid (∀ (V:z) (v:Aq),ESl V v l->AA Ae 32 #[v,.string s] V fun e w'=>e=Ag (H I (DU l s))/\At V.heap.size V w'):=vJ fun V v hv=>JT hv (by omega) s
 have HB1:=vJ hb1;obtain⟨m,hm⟩:=nm l.length;have HSH:Hid (∀ (V:z) (v:Aq) (B:Nat),ER V B 38 v l->∃ ao cap,v=Ak ao m cap):=vJ fun V v B hv=>by rw[hm];exact hv.sl.shape
 cases hf:C3 (i,s)
 . have KF:=vJ fun V=>JD i s AI hf V
   have HF:=vJ hf;clear h hk h1 Bu hQ hd hl hw1 hn1 hb1 Qv hm hf;go_enter Tryz.func10,Tryz.ntmps10;go_upto_region 1 with(fail)
   rw[H1.out]
   go_wp2_with (first
    |(go_at_call 30;(with_reducible refine KR.out.mono ?_);rintro e w2 ⟨v,rfl,hv,hb2⟩;obtain⟨ao,cap,rfl⟩:=HSH.out _ _ _ hv;obtain⟨c1,c2⟩:=HCB.out _ hb2;have HB2:=vJ (HB1.out.trans (hb2.mono HB1.out.size));clear hv hb2)
    |(go_at_call 31;(with_reducible refine(KF.out _).mono ?_);rintro e w3 ⟨rfl,hb3⟩))
   go_ret;exact AN ⟨HF.out,rfl,HB2.out.trans (hb3.mono HB2.out.size)⟩
 . have KF:=vJ fun V=>JD i s AL hf V
   have HF:=vJ hf;by_cases hx:C4 l s<l.length
   . obtain⟨k,I3⟩:=nm (C4 l s)
     have e3:DU l s=(k:Int):=(by unfold DU;rw[AC hx,I3]);rw[e3] at KX;have HX:=vJ hx;clear h hk h1 Bu hQ hd hl hw1 hn1 hb1 Qv hm hf e3 hx I3;go_enter Tryz.func10,Tryz.ntmps10;go_upto_region 1 with(fail)
     rw[H1.out]
     go_wp2_with (first
      |(go_at_call 30;(with_reducible refine KR.out.mono ?_);rintro e w2 ⟨v,rfl,hv,hb2⟩;obtain⟨ao,cap,rfl⟩:=HSH.out _ _ _ hv;obtain⟨c1,c2⟩:=HCB.out _ hb2;have HV2:=vJ hv.sl;have HB2:=vJ hb2;clear hv hb2)
      |(go_at_call 31;(with_reducible refine(KF.out _).mono ?_);rintro e w3 ⟨rfl,hb3⟩;have HB3:=vJ (HB2.out.trans (hb3.mono HB2.out.size));obtain⟨d1,d2⟩:=HCB.out _ HB3.out;have KX3:=vJ (KX.out _ _ (HV2.out.below hb3));clear hb3)
      |(go_at_call 32;(with_reducible refine KX3.out.mono ?_);rintro e w4 ⟨rfl,hb4⟩;have HB4:=vJ (HB3.out.trans (hb4.mono HB3.out.size));clear hb4))
     go_ret;exact Ba (AN ⟨HF.out,HX.out,rfl,HB1.out.trans (HB4.out.mono HB1.out.size)⟩)
   . have e3:DU l s= -1:=by unfold DU;rw[AE hx]
     rw[e3] at KX;have HX:=vJ hx;have HWR:Hid (∀ V,At w.heap.size w V->AA Ae 33 #[Am (A ⟨bf,0,Y⟩),H I n,H I m,BD #[H I i,.string s]] V (WrE w P d p X S N O kk F bf n sz M Q l.length (i,s))):=vJ fun V hV=>by
      rw[hm];exact(MK (h.low hV) h1 Bu hQ (a:=l.length) (by omega) hf).mono fun e w' hw=>hw.pre hV
     clear h hk h1 Bu hQ hd hl hw1 hn1 hb1 Qv hm hf e3 hx;go_enter Tryz.func10,Tryz.ntmps10;go_upto_region 1 with(fail)
     rw[H1.out]
     go_wp2_with (first
      |(go_at_call 30;(with_reducible refine KR.out.mono ?_);rintro e w2 ⟨v,rfl,hv,hb2⟩;obtain⟨ao,cap,rfl⟩:=HSH.out _ _ _ hv;obtain⟨c1,c2⟩:=HCB.out _ hb2;have HV2:=vJ hv.sl;have HB2:=vJ hb2;clear hv hb2)
      |(go_at_call 31;(with_reducible refine(KF.out _).mono ?_);rintro e w3 ⟨rfl,hb3⟩;have HB3:=vJ (HB2.out.trans (hb3.mono HB2.out.size));obtain⟨d1,d2⟩:=HCB.out _ HB3.out;have KX3:=vJ (KX.out _ _ (HV2.out.below hb3));clear hb3)
      |(go_at_call 32;(with_reducible refine KX3.out.mono ?_);rintro e w4 ⟨rfl,hb4⟩;have HB4:=vJ (HB3.out.trans (hb4.mono HB3.out.size));obtain⟨f1,f2⟩:=HCB.out _ HB4.out;have KW4:=vJ (HWR.out _ (HB1.out.trans (HB4.out.mono HB1.out.size)));clear hb4)
      |(go_at_call 33;(with_reducible refine KW4.out.mono ?_);rintro e w5 hw5;obtain⟨er,rfl⟩:=hw5.ret))
     go_ret;exact Ba (Ba ⟨HF.out,HX.out,hw5⟩)
end
def addL(l:List BC)(x:BC):List BC:=if C3 x=AL/\¬ C4 l x.2<l.length then l ++ [x] else l
def GE(l:List BC)(x:BC):Int:=if C3 x=AL then if C4 l x.2<l.length then 5 else 0 else 1
def Y3(O:List (Int × Int))(kk:Nat)(M:Nat->Option (List Int)):Prop:=Dm O (64*kk)=6+DL M/\48+DL M<=62*kk
def RestD(w0:z)(d p:Aq)(kk bf:Nat)(l:List BC)(P:Nat->Prop)(w:z):Prop:=
 ∃ X N O F sz M,Fsd w0 w P d p X (Ed kk) N O kk F bf/\Fat X.is N F 1 sz M/\Ca N 1=2/\DirN sz M l/\Y3 O kk M
def StartD(w0:z)(d p:Aq)(kk bf:Nat)(l:List BC)(P:Nat->Prop)(w:z):Prop:=
 ∃ X N O F sz M,Fsm w0 w P d p (Kx X) (Ed kk) N O kk F bf/\Fmd w P d p (Kx X) (Ed kk) N O kk F bf/\Fat X.is N F 1 sz M/\Ca N 1=2/\DirN sz M l/\Y3 O kk M
def AbD(w0:z)(d p:Aq)(kk bf:Nat)(l:List BC)(P:Nat->Prop)(w:z):Prop:=
 ∃ X N O F sz M,Fsm w0 w P d p X (Ed kk) N O kk F bf/\Fat X.is N F 1 sz M/\Ca N 1=2/\DirN sz M l/\Y3 O kk M
def MidD(w0:z)(d p:Aq)(kk bf:Nat)(l:List BC)(P:Nat->Prop)(w:z):Prop:=
 ∃ X N O F N2 O2 F2 sz M,Fsm w0 w P d p X (Ed kk) N O kk F bf/\Fmd w P d p X (Ed kk) N2 O2 kk F2 bf/\Fat X.call N2 F2 1 sz M/\Ca N2 1=2/\DirN sz M l/\Y3 O2 kk M
def RdD(d p:Aq)(kk bf:Nat)(l:List BC)(P:Nat->Prop)(w:z):Prop:=
 ∃ X N O F sz M,Frd w P d p X (Ed kk) N O kk F bf/\Fat X.cur N F 1 sz M/\Ca N 1=2/\DirN sz M l
section
variable {w0 w:z}{d p:Aq}{kk bf:Nat}{l:List BC}{P:Nat->Prop}
theorem StartD.low(h:StartD w0 d p kk bf l P w){w':z}(hb:At w.heap.size w w'):StartD w0 d p kk bf l P w':=by
 obtain⟨X,N,O,F,sz,M,a,b,r⟩:=h;exact⟨X,N,O,F,sz,M,a.low hb,b.low hb,r⟩
theorem StartD.fs(h:StartD w0 d p kk bf l P w):FsAt w bf p:=by
 obtain⟨X,N,O,F,sz,M,a,_⟩:=h;exact a.fs
theorem MidD.fs(h:MidD w0 d p kk bf l P w):FsAt w bf p:=by
 obtain⟨X,N,O,F,N2,O2,F2,sz,M,a,_⟩:=h;exact a.fs
theorem RestD.fs(h:RestD w0 d p kk bf l P w):FsAt w bf p:=by
 obtain⟨X,N,O,F,sz,M,a,_⟩:=h;exact a.fs
theorem MidD.be(h:MidD w0 d p kk bf l P w):At w0.heap.size w0 w:=by
 obtain⟨X,N,O,F,N2,O2,F2,sz,M,a,_⟩:=h;exact a.be
theorem StartD.ab(h:StartD w0 d p kk bf l P w):AbD w0 d p kk bf l P w:=by
 obtain⟨X,N,O,F,sz,M,a,_,r⟩:=h;exact⟨_,N,O,F,sz,M,a,r⟩
theorem StartD.mid(h:StartD w0 d p kk bf l P w):MidD w0 d p kk bf l P w:=by
 obtain⟨X,N,O,F,sz,M,a,b,r⟩:=h;exact⟨_,N,O,F,N,O,F,sz,M,a,b,r⟩
theorem MidD.rd(h:MidD w0 d p kk bf l P w):RdD d p kk bf l P w:=by
 obtain⟨X,N,O,F,N2,O2,F2,sz,M,a,b,c,e,f,r⟩:=h;exact⟨_,N2,O2,F2,sz,M,b.rd,by rw[b.cur];exact c,e,f⟩
theorem RestD.begin(h:RestD w0 d p kk bf l P w):AA Ae 9 #[p] w fun e w'=>e=Ag (H I 0)/\∃ P',StartD w0 d p kk bf l P' w'/\Chg P P' w w':=by
 obtain⟨X,N,O,F,sz,M,a,r⟩:=h;exact a.begin.mono fun e w' ⟨he,P',b,c,hc⟩=>⟨he,P',⟨X,N,O,F,sz,M,b,c,r⟩,hc⟩
theorem StartD.flt(h:StartD w0 d p kk bf l P w)(h4:kk<5):∃ X N O F Q sz M,Fsm w0 w P d p (Kx X) (Ed kk) N O kk F bf/\Flt w P d p (Kx X) (Ed kk) N O kk F bf 1 sz M Q/\Q.length<=10/\Fat X.is N F 1 sz M/\Ca N 1=2/\DirN sz M l/\Y3 O kk M:=by
 obtain⟨X,N,O,F,sz,M,a,b,c1,c2,c4,c3⟩:=h;refine⟨X,N,O,F,RX (Ed kk) kk 1 (num (N.getD 1 []) 13),sz,M,a,⟨b,c1,WL _ _,R4 _ _ _ _,?_⟩,by rw[SH];omega,c1,c2,c4,c3⟩;have h1:=c3.1;have h2:=c3.2;omega
theorem FlO.midD{X:XSt}{N:List (List Int)}{O:List (Int × Int)}{F:Nat->List Int}{Q:List Int}{sz sz' k:Nat}{M M':Nat->Option (List Int)}{l':List BC}{w':z}
 (a:Fsm w0 w P d p (Kx X) (Ed kk) N O kk F bf) (f:Flt w P d p (Kx X) (Ed kk) N O kk F bf 1 sz M Q) (c2:Ca N 1=2) (c3:Y3 O kk M) (ho:FlO w P d p (Kx X) (Ed kk) N O kk F bf 1 Q sz' M' k R5 w') (hd:DirN sz' M' l') (hl:l'.length<=100) (I3:1<=kk):
 ∃ P',MidD w0 d p kk bf l' P' w'/\Chg P P' w w':=by
 obtain⟨P',X',N',O',F',Q',g,b,_,_,hc,_⟩:=ho;have h1:=f.cnt g.ft b;have h2:=c3.1;have h3:=hd.used (k:=7) (by omega) (by decide);exact⟨P',⟨X',N,O,F,N',O',F',_,_,a.next g.md.inv g.md.wi b.on hc,g.md,g.ft,b.kd.trans c2,hd,by omega,by omega⟩,hc⟩
theorem iK{O:List (Int × Int)}{M M':Nat->Option (List Int)}{sz':Nat}{l':List BC}(c3:Y3 O kk M)(hd:DirN sz' M' l')(hl:l'.length<=100)(I3:1<=kk):Fp O kk M M':=by
 have h3:=hd.used (k:=7) (by omega) (by decide);have:=c3.1;unfold Fp;omega
def CallD(w0:z)(d p:Aq)(kk bf:Nat)(er:Int)(l:List BC)(P:Nat->Prop)(w:z):Prop:=(er=0->MidD w0 d p kk bf l P w)/\(er≠0->AbD w0 d p kk bf l P w)/\FsAt w bf p
theorem StartD.call(h:StartD w0 d p kk bf l P w)(er:Int):CallD w0 d p kk bf er l P w:=⟨fun _=>h.mid,fun _=>h.ab,h.fs⟩
theorem StartD.add(h:StartD w0 d p kk bf l P w)(h1:1<=kk)(h4:kk<5)(hl:l.length<100)(x:BC):
 AA Ae 10 #[Am (A ⟨bf,0,Y⟩),H I 1,BD #[H I x.1,.string x.2]] w fun e w'=>e=Ag (H I (GE l x))/\∃ P',CallD w0 d p kk bf (GE l x) (addL l x) P' w'/\Chg P P' w w':=by
 obtain⟨X,N,O,F,Q,sz,M,a,f,hQ,c1,c2,c4,c3⟩:=h.flt h4;have hz:=c4.f.zs;refine(dm f c2 (n:=1) (by decide) (by decide) (by omega) c4.f (by omega) x).mono ?_;rintro e w' (⟨hf,he,hb⟩| ⟨hf,hx,he,hb⟩| ⟨hf,hx,hw⟩)
 . have e1:GE l x=1:=by unfold GE;rw[hf,AE (by decide)]
   have e2:addL l x=l:=(by unfold addL;rw[hf,AE (fun h=>by cases h.1)]);rw[e1,e2];exact⟨he,P,(h.low hb).call 1,Chg.of_below hb⟩
 . have e1:GE l x=5:=by unfold GE;rw[hf,AC rfl,AC hx]
   have e2:addL l x=l:=(by unfold addL;rw[AE (fun h=>h.2 hx)]);rw[e1,e2];exact⟨he,P,(h.low hb).call 5,Chg.of_below hb⟩
 . have e1:GE l x=0:=by unfold GE;rw[hf,AC rfl,AE hx]
   have e2:addL l x=l ++ [x]:=(by unfold addL;rw[AC ⟨hf,hx⟩]);rw[e1,e2];have hd:=c4.add (e:=x) hf;rw[hz] at hd;have Mu:(l ++ [x]).length<=100:=(by rw[Ax,List.length_singleton];omega);rcases hw with⟨he,_,ho⟩| ⟨_,hn,_⟩
   . rw[show max sz (16*l.length+16)=16*(l.length+1) by omega] at ho
     obtain⟨P',hm,hc⟩:=FlO.midD a f c2 c3 ho hd Mu h1;exact⟨he,P',⟨fun _=>hm,fun h=>absurd rfl h,hm.fs⟩,hc⟩
   . exact absurd (iK c3 hd Mu h1) hn
theorem RdD.find(h:RdD d p kk bf l P w)(s:ByteArray):AA Ae 16 #[Am (A ⟨bf,0,Y⟩),H I 1,.string s] w fun e w'=>e=Ag (AO #[H I (K5 l s),H I (JR l s)])/\At w.heap.size w w':=by
 obtain⟨X,N,O,F,sz,M,a,b,c,e⟩:=h;exact Y9 a b c (n:=1) (by decide) (by decide) e.f s
end
theorem Xu(G:List (List Int)):Fat G newN iM 1 0 fun _=>Y:=by
 have hz:∀ i,i<139->BJ (newN.getD 1 []) (iM 1) i=0:=fun i hi=>Un (c:=0) (m:=1) (by decide) (by decide) hi
 refine⟨Ba (FS (c:=0) (m:=1) (by decide) (by decide)),rfl,by omega,fun i hi=>by rw[AC (hz i (by omega))],fun _ _=>rfl,?_,⟨fun i l e=>(by cases e),fun i l e=>(by cases e)⟩⟩;constructor
 . intro e;exact absurd (hz 138 (by decide)) e
 . rintro⟨b,a1,a2,a3⟩;exact absurd (hz b (by omega)) a3
theorem Tsd.rest{w0 w:z}{P:Nat->Prop}{d:Aq}{b kk bf:Nat}{X:XSt}(h:Tsd w0 w P d (Am (A ⟨b,0,Y⟩)) X (Ed kk) newN (FE kk) kk bf)(h1:1<=kk)(h4:kk<5):RestD w0 d (Am (A ⟨b,0,Y⟩)) kk bf [] P w:=by
 have hc:=aH kk h4 h1;have h0:DL (fun _=>Y)=0:=by decide
 exact⟨X,newN,FE kk,iM,0,fun _=>Y,⟨h.inv,h.wi,h.fu,⟨h.has,h.ok,h.tab,V4 h1 _⟩,WX h1 (by omega),h.fs,h.nb,h.bN,h.pN,h.be⟩,Xu _,FS (c:=0) (m:=1) (by decide) (by decide),DirN.nil (Xu []).ok (fun _=>rfl),by rw[hc,h0],by rw[h0];omega⟩
theorem Vf{kk:Nat}(h1:1<=kk)(h4:kk<5)(w0:z){w:z}(hb:At w0.heap.size w0 w):AA Ae 8 #[H I (64*(kk:Int)),H I (64*(kk:Int))] w fun e w'=>∃ b,e=Ag (Am (A ⟨b,0,Y⟩))/\At w0.heap.size w0 w'/\
 AA Ae 7 #[Am (A ⟨b,0,Y⟩)] w' fun e w''=>∃ bf P d,e=Ag (Am (A ⟨bf,0,Y⟩))/\RestD w0 d (Am (A ⟨b,0,Y⟩)) kk bf [] P w'':=by
 refine(bm h1 (by omega) w0 hb).mono ?_;rintro e w' ⟨b,he,hb2,hc⟩;refine⟨b,he,hb2,hc.mono ?_⟩;rintro e2 w'' ⟨bf,P,d,X,mf,ht,_⟩;exact⟨bf,P,d,mf,ht.rest h1 h4⟩
theorem Lx(w:z):AA Ae 6 #[] w fun e w'=>e=Ag (A1 AL)/\At w.heap.size w w':=by
 have KM:=vJ (Vf (kk:=1) (by decide) (by decide) w (AM _ w));rw[show(64*((1:Nat):Int))=64 from rfl] at KM;obtain⟨s,hs⟩:∃ s:ByteArray,s={ data:=#[97] }:=⟨_,rfl⟩;have KA:Hid (∀ (V:z) (P:Nat->Prop) (d p:Aq) (bf:Nat),StartD w d p 1 bf [] P V->AA Ae 10 #[Am (A ⟨bf,0,Y⟩),H I 1,BD #[H I 5,.string { data:=#[97] }]] V fun e w'=>e=Ag (H I 0)/\∃ P',MidD w d p 1 bf [(5,{ data:=#[97] })] P' w'):=vJ fun V P d p bf h=>by
  have e1:GE [] ((5:Int),({ data:=#[97] }:ByteArray))=0:=by decide +kernel
  have e2:addL [] ((5:Int),({ data:=#[97] }:ByteArray))=[(5,{ data:=#[97] })]:=by unfold addL;rw[AC (by decide +kernel)];rfl
  refine(h.add (by decide) (by decide) (by decide) (5,{ data:=#[97] })).mono ?_;rintro e w' ⟨he,P',hc,_⟩;rw[e1] at he hc;rw[e2] at hc;exact⟨he,P',hc.1 rfl⟩
 have KF:Hid (∀ (V:z) (P:Nat->Prop) (d p:Aq) (bf:Nat),MidD w d p 1 bf [(5,{ data:=#[97] })] P V->AA Ae 16 #[Am (A ⟨bf,0,Y⟩),H I 1,.string { data:=#[97] }] V fun e w'=>e=Ag (AO #[H I 5,H I 0])/\At w.heap.size w w'):=vJ fun V P d p bf h=>by
  have e1:K5 [((5:Int),({ data:=#[97] }:ByteArray))] { data:=#[97] }=5:=by decide +kernel
  have e2:JR [((5:Int),({ data:=#[97] }:ByteArray))] { data:=#[97] }=0:=by decide +kernel
  refine(h.rd.find { data:=#[97] }).mono ?_;rintro e w' ⟨he,hb⟩;rw[e1,e2] at he;exact⟨he,h.be.trans (hb.mono h.be.size)⟩
 go_enter Tryz.func6,Tryz.ntmps6
 go_wp2_with (first
  |(go_at_call 8;refine KM.out.mono ?_;rintro e w1 ⟨b,rfl,hb1,KN⟩)
  |(go_at_call 7;refine KN.mono ?_;rintro e w2 ⟨bf,P2,d2,rfl,hr2⟩;have c2:=hr2.fs.cell;have KB:=vJ hr2.begin)
  |(go_at_call 9;refine KB.out.mono ?_;rintro e w3 ⟨rfl,P3,hs3,_⟩)
  |(go_at_call 10;refine(KA.out _ _ _ _ _ hs3).mono ?_;rintro e w4 ⟨rfl,P4,l_⟩)
  |(go_at_call 16;refine(KF.out _ _ _ _ _ l_).mono ?_;rintro e w5 ⟨rfl,hb5⟩))
 go_ret;exact⟨rfl,hb5⟩
end
end Go.Proofs.YtdefiimcmecnnaaGreat
