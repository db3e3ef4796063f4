/- What the law rests on. -/
import Derived.RangeFuncCalls
import Derived.RangeFuncLeaves
import Derived.Shelf.Abstract
import Derived.OwnWalkIn
import Derived.TacticsInMore
import Derived.LoopNIn
import Derived.LoopIn
import Derived.Deep.RegionWith
import Derived.Deep.Upon
import Derived.Deep.RegionLawGrows
import Derived.Lib.BufferWrite
import Derived.Lib.UnsafeStr
import Derived.RangeFuncIn
import Derived.OrdersIn
import Derived.Test.YtfpdajplfmakhaaGreatDoorQC10
open Go.Value renaming int->z,slice->Ak,pointer->Al,tuple->AH,bool->AP,agg->BN
open Go.IntKind renaming i64->Ad
open Go.Proofs.Tryz renaming prog->Ae
open Option renaming none->H,some->Z
open Go renaming World->Ai,Value->Ao,Calls->Av,Oper->BE,strOfNums->BX,wpList->Cf,TypeId->Cg
open Go.Ending renaming returned->Aj
open Go.Obj renaming cells->Am
open Go.RowKit renaming Below->Ap
open List renaming replicate->Aw,length_cons->Bm,range->Bu
open Bool renaming false->Ay,true->AE
open Array renaming replicate->AK
open Or renaming inl->AU,inr->AW
open Int renaming toNat_natCast->Cd
namespace Go.Proofs.YtfpdajplfmakhaaGreatDoor
set_option maxHeartbeats 12000000
set_option linter.unusedVariables false
set_option maxRecDepth 100000
section
open Go.RowKit
attribute [local go_sem] BE.semAt_some
def Oc(o:BE):Bool:=match o.op with |.defer _=>Ay|_=>AE
theorem iq{o:BE}(h:Oc o=AE):∀ c,o.op≠.defer c:=fun c e=>by unfold Oc at h;rw[e] at h;cases h
section
variable {P:Program}{ops:Array BE}{Q:Exit->Act->Ai->Prop}{a:Act}{w:Ai}{l n:Nat}
theorem Z2{o:BE}(hd:Oc o=AE){next next':Act->Ai->Prop}(hn:∀ a w,next a w->next' a w)(h:o.wp P a w next Q):o.wpIn (Fence.wide.inRound l) n P a w next' Q:=by
 refine⟨fun _ _=>trivial,?_⟩;rw[BE.semAt_eq _ _ _ (iq hd)];unfold BE.wp at h;generalize (execOp a.eval o).run P w=r at h |-
 match r,h with
 |.ok (.value v) w',h=>exact hn _ _ h
 |.ok .skip w',h=>exact hn _ _ h
 |.ok (.defer d) w',h=>exact hn _ _ h
 |.ok (.enter f args) w',h=>
  refine⟨fun e=>(by cases e),CallsIn.inRound l (Di.2 (Av.mono h ?_))⟩;intro e w'' k;cases e with
  |returned v=>exact hn _ _ k
  |panicked c=>exact k
  |outgrown=>exact k
 |.ok (.row row args) w',h=>
  refine⟨fun e=>(by cases e),fun c cs _=>?_⟩;obtain⟨v,w2,r2,s2⟩:=h c cs;exact⟨v,w2,hn _ _ r2,stepsIn_wide.2 s2⟩
 |.ok (.round l' f t asg bd) w',h=>exact h.elim
 |.halt (.panic v) w',h=>exact h
theorem NA(hlo:¬ LetsOut Q):∀ (L:List BE) (a:Act) (w:Ai),L.all Oc=AE->Cf P ops Q L a w->wpListIn (Fence.wide.inRound l) n P ops Q L a w
 |[],_,_,_,h=>h
 |o :: L,a,w,hd,h=>by
  rw[List.all_cons,AQ] at hd;unfold wpListIn;unfold Cf at h;split
  . next hw=>
    rw[Au hw] at h;rcases h with h|h
    . exact Z2 hd.1 (fun a w k=>NA hlo L a w hd.2 k) h
    . exact absurd h.2 hlo
  . next hw=>
    rw[Ax hw] at h;exact⟨fun _ _=>trivial,NA hlo L _ w hd.2 h⟩
theorem Hs{id:Nat}{L:List BE}(hd:L.all Oc=AE)(hlo:¬ LetsOut Q)(h:Cf P L.toArray Q L a w):(Code.region id L.toArray Ay).wpIn (Fence.wide.inRound l) n P Q a w:=
 wpIn_region_lit (NA hlo L a w hd h)
end
theorem Xm(b off n cap l h:Nat)(h1:l<h)(h2:h<=cap)(W:Ai):
 (Instr.slice 77 (Ak (Z ⟨b,off,H⟩) n cap) (Z (z Ad (l:Int))) (Z (z Ad (h:Int))) (Z (z Ad (h:Int)))).run Ae W=.ok (Ak (Z ⟨b,off+l,H⟩) (h-l) (h-l)) W:=by
 obtain⟨i,g2,g3,g4,g5⟩:=Bf IB;have hne:h≠l:=by omega
 have ee:Ae.elem 77=5:=by kernel_rfl
 have hs:(sizeOf 5).run Ae W=.ok 1 W:=by simp[sizeOf,typeInfo,g2,g4]
 have hb:(Instr.sliceBounds AE n cap (Z (z Ad (l:Int))) (Z (z Ad (h:Int))) (Z (z Ad (h:Int)))).run Ae W=.ok (l,h,h) W:=by
  simp[Instr.sliceBounds,run_sliceBound,(by omega:(h:Int)<=(cap:Int)),(by omega:(l:Int)<=(h:Int))]
 rw[run_slice_any W 77 _ n cap (by rw[ee];exact Tryz.underlying77),hb,ee];simp only[Result.andThen_ok,hs];simp[sliced,hne,BY]
abbrev UM (L:Nat):={ j:Nat // 256*j<L }
def Mf(L:Nat):Nat->List (UM L)
 |0=>[]
 |k+1=>if h:256*k<L then Mf L k ++ [⟨k,h⟩] else Mf L k
theorem NC{L:Nat}:∀ k,256*k<L+256->(Mf L k).map (·.1)=Bu k
 |0,_=>rfl
 |k+1,h=>by
  have h1:256*k<L:=by omega
  rw[Mf,dif_pos h1,Cp,NC k (by omega),GX];rfl
theorem fB{L k:Nat}(h:256*k<L+256):(Mf L k).length=k:=by
 have:=Bt List.length (NC (L:=L) k h)
 rwa [Ba,Dp] at this
def oW(vb vo L:Nat)(x:UM L):Array Ao:=#[Ak (Z ⟨vb,vo+256*x.1,H⟩) (min 256 (L-256*x.1)) (min 256 (L-256*x.1))]
def wL(sB nB:Nat)(W W':Ai):Prop:=W'.heap[sB]? =W.heap[sB]? /\W'.heap[nB]? =W.heap[nB]?
theorem bG(ao:Option Addr)(L cap:Nat)(w:Ai):Av Ae 136 #[Ak ao L cap,z Ad 256] w fun e w'=>e=Aj (.func (.func 176) #[] #[Al (Z ⟨w.heap.size,0,H⟩),Al (Z ⟨w.heap.size+1,0,H⟩)])/\w'=(w.alloc (Am #[Ak ao L cap] 77)).alloc (Am #[z Ad 256] 3):=by
 go_enter Tryz.func136,Tryz.ntmps136;go_wp2;go_ret;exact⟨rfl,rfl⟩
theorem U6{n:Nat}(hn:1<=n){sB nB vb vo L cap:Nat}{ao:Option Addr}(vr:0<L->ao=Z ⟨vb,vo,H⟩)(Cx:L<=cap)(hL:L<=1000000){w:Ai}(h1:sB<w.heap.size)(h2:nB<w.heap.size)(hs:w.cell? ⟨sB,0,H⟩=Z (Ak ao L cap))(hN:w.cell? ⟨nB,0,H⟩=Z (z Ad 256)):
 SeqStopsK Fence.wide n Ae 176 #[Al (Z ⟨sB,0,H⟩),Al (Z ⟨nB,0,H⟩)] (oW vb vo L) (wL sB nB) (fun xs=>xs.map (·.1)=Bu ((L+255) / 256)) (fun _=>True) ((L+255) / 256) w:=by
 intro l J Jx W hW hJ hJx hY h0;have Na:W.cell? ⟨sB,0,H⟩=Z (Ak ao L cap):=(hW.cell (p:=⟨sB,0,H⟩) h1).trans hs;have hN0:W.cell? ⟨nB,0,H⟩=Z (z Ad 256):=(hW.cell (p:=⟨nB,0,H⟩) h2).trans hN;have HS0:=wM Na;have HN0:=wM hN0;have H0:=wM h0;have HJ:=wM hJ;have HY:=wM hY;clear hW hs hN Na hN0 h0 hJ hJx hY h1 h2;refine callsIn_of_wp Tryz.func176 rfl trivial ?_ rfl;simp only[Tryz.ntmps176,List.size_toArray,Bm,List.length_nil,Nat.reduceAdd,Nat.reduceSub,Array.replicate_succ,Array.replicate_zero,List.push_toArray,List.append_toArray,List.nil_append,List.cons_append]
 gi_wp2
 gi_loopw [4] (fun s4 wr=>∃ k i:Nat,256*k=i/\i<L+256/\s4=z Ad i/\Hid (J (Mf L k) wr)/\Hid (wr.cell? ⟨sB,0,H⟩=Z (Ak ao L cap))/\Hid (wr.cell? ⟨nB,0,H⟩=Z (z Ad 256))) (fun s4 _=>L-(intOf s4).toNat)
 case atStart=>exact⟨0,0,rfl,by omega,rfl,H0,HS0,HN0⟩
 case round=>
  obtain⟨k,i,hki,hiL,rfl,HJs,HS,HN⟩:=hrel;have c1:=HS.out;have c2:=HN.out;by_cases hlt:i<L
  . have gH:(i:Int)<(L:Int):=by omega
    obtain rfl:=vr (by omega);have Ur:256*k<L:=(by omega);obtain⟨t,ht⟩:=nm (min 256 (L-i));obtain⟨e,he⟩:=nm (i+t);obtain⟨fn,tmps,assign,body,hy,hR⟩:=HY.out _ ⟨k,Ur⟩ wr.drew (HJ.out _ _ _ H HJs.out ⟨rfl,rfl,rfl,At _,fun _ _ _=>rfl⟩ (fun r e=>by cases e)) (by rw[fB (by omega)];omega);have e1:oW vb vo L ⟨k,Ur⟩=#[Ak (Z ⟨vb,vo+i,H⟩) t t]:=(by unfold oW;rw[hki,<- ht]);rw[e1] at hy;have e2:Mf L (k+1)=Mf L k ++ [⟨k,Ur⟩]:=(by rw[Mf,dif_pos Ur]);have HE2:=wM e2;have e3:(i:Int)+(t:Int)=(e:Int):=(by omega);have e4:Ad.wrap (e:Int)=(e:Int):=Bq _ (by omega);have e5:Ad.wrap ((i:Int)+(t:Int))=(e:Int):=(by rw[e3];exact e4);have f1:∀ W,(Instr.slice 77 (Ak (Z ⟨vb,vo,H⟩) L cap) (Z (z Ad (i:Int))) H H).run Ae W=.ok (Ak (Z ⟨vb,vo+i,H⟩) (L-i) (cap-i)) W:=fun W=>by
     have:=Gg W vb vo L cap i L H (AU ⟨rfl,rfl⟩) (by omega) Cx (by omega);rw[run_sliceAt_slice W 77 _ _ _ _ (by rw[show Ae.elem 77=5 by kernel_rfl];exact Tryz.underlying77)] at this;exact this
    have f2:∀ W,(Instr.slice 77 (Ak (Z ⟨vb,vo,H⟩) L cap) (Z (z Ad (i:Int))) (Z (z Ad (e:Int))) (Z (z Ad (e:Int)))).run Ae W=.ok (Ak (Z ⟨vb,vo+i,H⟩) t t) W:=fun W=>by
     have:=Xm vb vo L cap i e (by omega) (by omega) W;rw[show e-i=t by omega] at this;exact this
    have f3:(if ((L-i:Nat):Int)<256 then ((L-i:Nat):Int) else 256)=(t:Int):=by split <;> omega
    have b1:t<=256:=(by omega);have b2:i+256<L+512:=(by omega);have b3:(256:Int)<=1000000:=(by omega);have JG:256*(k+1)=i+256:=(by omega);have HME:Hid (L-(i+256)<L-i):=wM (by omega);have HI:Hid (i+256<L+256):=wM (by omega);have HK2:=wM JG;obtain⟨Li,hLi⟩:=nm (L-i);rw[<- hLi] at f1 f3;clear ht he e1 e2 hki JG hLi
    gi_wp2
    refine wpIn_wide.2 ?_;have hS3:wr.drew.cell? ⟨sB,0,H⟩=Z (Ak (Z ⟨vb,vo,H⟩) L cap)/\wr.drew.cell? ⟨nB,0,H⟩=Z (z Ad 256):=⟨c1,c2⟩;refine wp_region_held_drew (S:=fun V=>V.cell? ⟨sB,0,H⟩=Z (Ak (Z ⟨vb,vo,H⟩) L cap)/\V.cell? ⟨nB,0,H⟩=Z (z Ad 256)) (by kernel_rfl) hS3 (fun hHeld=>?_);refine wpAnyH_take (i:=0) (v:=z Ad 256) rfl (by kernel_rfl) (by kernel_rfl) (by kernel_rfl) (fun _ _ _ h=>h) (AU ⟨by rfl,?_⟩) (by assumption) ?_
    . intro V gJ;obtain⟨z1,z2⟩:=gJ;go_simp;(try omega)
    (try simp only[Act.put,AV,List.set_cons_zero,List.set_cons_succ,List.getElem_toArray,List.getElem_cons_zero])
    refine wpAnyH_take (i:=1) (v:=Ak (Z ⟨vb,vo,H⟩) L cap) rfl (by kernel_rfl) (by kernel_rfl) (by kernel_rfl) (fun _ _ _ h=>h) (AU ⟨by rfl,?_⟩) (by assumption) ?_
    . intro V gJ;obtain⟨z1,z2⟩:=gJ;go_simp;(try omega)
    (try simp only[Act.put,AV,List.set_cons_zero,List.set_cons_succ,List.getElem_toArray,List.getElem_cons_zero,List.getElem_cons_succ])
    refine wpAnyH_take (i:=2) (v:=z Ad i) rfl (by kernel_rfl) (by kernel_rfl) (by kernel_rfl) (fun _ _ _ h=>h) (AU ⟨by rfl,?_⟩) (by assumption) ?_
    . intro V gJ;obtain⟨z1,z2⟩:=gJ;go_simp;(try omega)
    (try simp only[Act.put,AV,List.set_cons_zero,List.set_cons_succ,List.getElem_toArray,List.getElem_cons_zero,List.getElem_cons_succ])
    refine wpAnyH_take (i:=3) (v:=Ak (Z ⟨vb,vo+i,H⟩) Li (cap-i)) rfl (by kernel_rfl) (by kernel_rfl) (by kernel_rfl) (fun _ _ _ h=>h) (AU ⟨by rfl,?_⟩) (by assumption) ?_
    . intro V gJ;obtain⟨z1,z2⟩:=gJ;go_simp;(try omega)
    (try simp only[Act.put,AV,List.set_cons_zero,List.set_cons_succ,List.getElem_toArray,List.getElem_cons_zero,List.getElem_cons_succ])
    refine wpAnyH_take (i:=4) (v:=z Ad Li) rfl (by kernel_rfl) (by kernel_rfl) (by kernel_rfl) (fun _ _ _ h=>h) (AU ⟨by rfl,?_⟩) (by assumption) ?_
    . intro V gJ;obtain⟨z1,z2⟩:=gJ;go_simp;(try omega)
    (try simp only[Act.put,AV,List.set_cons_zero,List.set_cons_succ,List.getElem_toArray,List.getElem_cons_zero,List.getElem_cons_succ])
    refine wpAnyH_take (i:=5) (v:=z Ad t) rfl (by kernel_rfl) (by kernel_rfl) (by kernel_rfl) (fun _ _ _ h=>h) (AU ⟨by rfl,?_⟩) (by assumption) ?_
    . intro V gJ;obtain⟨z1,z2⟩:=gJ;go_simp;(try omega)
    (try simp only[Act.put,AV,List.set_cons_zero,List.set_cons_succ,List.getElem_toArray,List.getElem_cons_zero,List.getElem_cons_succ])
    refine wpAnyH_take (i:=6) (v:=z Ad t) rfl (by kernel_rfl) (by kernel_rfl) (by kernel_rfl) (fun _ _ _ h=>h) (AU ⟨by rfl,?_⟩) (by assumption) ?_
    . intro V gJ;obtain⟨z1,z2⟩:=gJ;go_simp;(try omega)
    (try simp only[Act.put,AV,List.set_cons_zero,List.set_cons_succ,List.getElem_toArray,List.getElem_cons_zero,List.getElem_cons_succ])
    refine wpAnyH_done (by kernel_rfl) ?_ _;obtain⟨c3,c4⟩:=hS3
    gi_wp2
    refine hR.mono ?_;rintro e W3 (⟨rfl,sL,hk3⟩| ⟨rfl,lW⟩)
    . have c5:W3.cell? ⟨sB,0,H⟩=Z (Ak (Z ⟨vb,vo,H⟩) L cap):=(A5 (a:=⟨sB,0,H⟩) hk3.1).trans c3
      have c6:W3.cell? ⟨nB,0,H⟩=Z (z Ad 256):=(A5 (a:=⟨nB,0,H⟩) hk3.2).trans c4;have HJ3:=wM sL;clear sL hk3
      gi_wp2
      go_roundw
      case rel=>exact⟨k+1,i+256,HK2.out,HI.out,by go_num,wM (by rw[HE2.out];exact HJ3.out),wM c5,wM c6⟩
      case measure=>have:=HME.out;simp[intOf];omega
    . gi_wp2
      refine AS (results_none rfl _ _ _) rfl ?_;exact⟨⟨_,rfl⟩,AW ⟨_,trivial,lW⟩⟩
  . have gH:¬ (i:Int)<(L:Int):=by omega
    have SI:k=(L+255) / 256:=(by omega);subst SI
    gi_wp2
    go_end0
    exact⟨⟨_,rfl⟩,AU ⟨_,NC _ (by omega),HJs.out⟩⟩
end
section
open Go.RowKit BM
attribute [local go_sem] BE.semAt_some
def kS(l:List Int)(w:Ai)(e:Ending)(w':Ai):Prop:=
 (∃ O,FrmL O/\Fm O=l/\∃ v,e=Aj (AH #[v,z Ad 0])/\ER w' w.heap.size 75 v O/\Ap w.heap.size w w')\/
 ((¬ ∃ O,FrmL O/\Fm O=l)/\e=Aj (AH #[Ak H 0 0,z Ad 3])/\Ap w.heap.size w w')
def wn(w0:Ai)(l:List Int)(Bl lB r1 r2:Nat){L:Nat}(pre:List (UM L))(W:Ai):Prop:=
 (∃ v E,W.heap[lB]? =Z (Am #[v] 116 (0,0))/\PartsD l (pre.map (·.1)) E/\ER W Bl 75 v E)/\W.heap[r1]? =Z (Am #[Ak H 0 0] 116 (0,0))/\W.heap[r2]? =Z (Am #[z Ad 0] 24 (0,0))/\Ap w0.heap.size w0 W/\Bl<=W.heap.size
def wD(w0:Ai)(l:List Int)(r1 r2:Nat)(c:Code){L:Nat}(pre:List (UM L))(W:Ai):Prop:=
 c=.ret/\(¬ ∃ O,FrmL O/\Fm O=l)/\W.heap[r1]? =Z (Am #[Ak H 0 0] 116 (0,0))/\W.heap[r2]? =Z (Am #[z Ad 3] 24 (0,0))/\Ap w0.heap.size w0 W
theorem Ep{W W':Ai}{row:Option Nat}{k:Nat}{o:Obj}(hg:W.grownBy W' row)(hk:W.heap[k]? =Z o)(hne:∀ r,row=Z r->r≠k):W'.heap[k]? =Z o:=
 (hg.block k (Ah.1 hk).1 (fun e=>hne k e.symm rfl)).trans hk
theorem VG{W W':Ai}{row:Option Nat}{B:Nat}{T:Cg}{v:Ao}{O:List (Int × ByteArray)}(h:ER W B T v O)(hg:W.grownBy W' row)(hr:∀ r,row=Z r->∃ o:Obj,W.heap[r]? =Z o/\o.isCells=Ay):ER W' B T v O:=by
 refine⟨h.1,?_⟩;rcases h.2 with h| ⟨g,cap,cur,hv,Xc,hh,r⟩
 . exact AU h
 . refine AW ⟨g,cap,cur,hv,Xc,Ep hg hh (fun k e hk=>?_),r⟩
   obtain⟨o,ho,hc⟩:=hr k e;rw[hk,hh] at ho;cases ho
   cases hc
theorem oG{w0:Ai}{l:List Int}{Bl lB r1 r2:Nat}(L:Nat)(h0:w0.heap.size<=Bl)(h1:lB<Bl)(h2:r1<Bl)(h3:r2<Bl):OwnFrom Bl (wn w0 l Bl lB r1 r2 (L:=L)):=by
 rintro s W W' row ⟨⟨v,E,a,b,c⟩,d,e,f,g⟩ hg hr;exact⟨⟨v,E,Ep hg a (fun r e=>by have:=(hr r e).1;omega),b,VG c hg fun r e=>(hr r e).2⟩,Ep hg d (fun r e=>by have:=(hr r e).1;omega),Ep hg e (fun r e=>by have:=(hr r e).1;omega),f.grown hg f.size (fun k e=>AI h0 (hr k e).1),AI g hg.size⟩
theorem mC{w0:Ai}{l:List Int}{Bl r1 r2:Nat}(L:Nat)(h0:w0.heap.size<=Bl)(h2:r1<Bl)(h3:r2<Bl)(c:Code):OwnFrom Bl (wD w0 l r1 r2 c (L:=L)):=by
 rintro s W W' row ⟨a,b,d,e,f⟩ hg hr;exact⟨a,b,Ep hg d (fun r e=>by have:=(hr r e).1;omega),Ep hg e (fun r e=>by have:=(hr r e).1;omega),f.grown hg f.size (fun k e=>AI h0 (hr k e).1)⟩
theorem J6{W W':Ai}(h:Ap W.heap.size W W'):KeepsOthers W W':=⟨h.size,fun k o hk _=>(h.block k (Ah.1 hk).1).trans hk⟩
theorem jU(w:Ai)(c1 c2 c3 c4 c5:Array Ao)(t1 t2 t3 t4 t5:Cg){W:Ai}(hW:W=((((w.alloc (Am c1 t1)).alloc (Am c2 t2)).alloc (Am c3 t3)).alloc (Am c4 t4)).alloc (Am c5 t5)):
 W.heap[w.heap.size]? =Z (Am c1 t1 (0,0))/\W.heap[w.heap.size+1]? =Z (Am c2 t2 (0,0))/\W.heap[w.heap.size+1+1]? =Z (Am c3 t3 (0,0))/\W.heap[w.heap.size+1+1+1]? =Z (Am c4 t4 (0,0))/\W.heap[w.heap.size+1+1+1+1]? =Z (Am c5 t5 (0,0))/\W.heap.size=w.heap.size+1+1+1+1+1/\Ap w.heap.size w W:=by
 have n1:=Ar w (Am c1 t1);have b1:=As w (Am c1 t1);have s1:(w.alloc (Am c1 t1)).heap.size=w.heap.size+1:=World.size_alloc _ _;generalize w.alloc (Am c1 t1)=w1 at n1 b1 s1 hW;have n2:=Ar w1 (Am c2 t2);have b2:=As w1 (Am c2 t2);have s2:(w1.alloc (Am c2 t2)).heap.size=w1.heap.size+1:=World.size_alloc _ _;generalize w1.alloc (Am c2 t2)=w2 at n2 b2 s2 hW;have n3:=Ar w2 (Am c3 t3);have b3:=As w2 (Am c3 t3);have s3:(w2.alloc (Am c3 t3)).heap.size=w2.heap.size+1:=World.size_alloc _ _;generalize w2.alloc (Am c3 t3)=w3 at n3 b3 s3 hW;have n4:=Ar w3 (Am c4 t4);have b4:=As w3 (Am c4 t4);have s4:(w3.alloc (Am c4 t4)).heap.size=w3.heap.size+1:=World.size_alloc _ _;generalize w3.alloc (Am c4 t4)=w4 at n4 b4 s4 hW;have n5:=Ar w4 (Am c5 t5);have b5:=As w4 (Am c5 t5);have s5:(w4.alloc (Am c5 t5)).heap.size=w4.heap.size+1:=World.size_alloc _ _;rw[<- hW] at n5 b5 s5;rw[s4,s3,s2,s1] at n5;rw[s3,s2,s1] at n4;rw[s2,s1] at n3;rw[s1] at n2;have c2':=b2.trans (b3.mono (by omega));have c3':=c2'.trans (b4.mono (by omega));have c4':=c3'.trans (b5.mono (by omega));have d3:=b3.trans (b4.mono (by omega));have d4:=d3.trans (b5.mono (by omega));have f4:=b4.trans (b5.mono (by omega));exact⟨(c4'.block _ (by omega)).trans n1,(d4.block _ (by omega)).trans n2,(f4.block _ (by omega)).trans n3,(b5.block _ (by omega)).trans n4,n5,by omega,b1.trans (c4'.mono (by omega))⟩
theorem oc{w:Ai}{b off n c c':Nat}{l:List Int}(h:BSl w (Ak (Z ⟨b,off,H⟩) n c) l)(h1:l.length<=c'):BSl w (Ak (Z ⟨b,off,H⟩) n c') l:=by
 refine⟨h.1,?_⟩;rcases h.2 with⟨e,_⟩| ⟨a,cap,e,hc,hr⟩
 . cases e
 . refine AW ⟨a,c',?_,h1,hr⟩
   have:=AY e;rw[this.1,this.2.1]
theorem rQ{l:List Int}{j:Nat}(h:∀ O,¬ GoodB l j O):¬ ∃ O,FrmL O/\Fm O=l:=fun⟨O,a,b⟩=>h _ (mD a b j)
theorem LL{fn:Func}{p u:Tmp}(h:fn.results=#[.cell p 116,.cell u 24])(tmps:Array Ao)(w:Ai)(g k:Nat)(v x:Ao)(T U:Cg)(hp:tmps.getD p undef=Al (Z ⟨g,0,H⟩))(hu:tmps.getD u undef=Al (Z ⟨k,0,H⟩))
 (hg:w.heap[g]? =Z (Am #[v] T (0,0))) (hk:w.heap[k]? =Z (Am #[x] U (0,0))):(results fn tmps).run Ae w=.ok (AH #[v,x]) w:=by
 have c1:w.cell? ⟨g,0,H⟩=Z v:=by rw[Aq _ _ _ _ _ _ hg];rfl
 have c2:w.cell? ⟨k,0,H⟩=Z x:=by rw[Aq _ _ _ _ _ _ hk];rfl
 have h0:(results fn tmps).run Ae w=
  ((asAddr (tmps.getD p undef)).run Ae w).andThen fun a w₁=>((loadVar 116 a).run Ae w₁).andThen fun v w₂=>((asAddr (tmps.getD u undef)).run Ae w₂).andThen fun a w₃=>((loadVar 24 a).run Ae w₃).andThen fun y w₄=>.ok (AH #[v,y]) w₄:=by
  simp only[results,h];simp[Result.andThen]
 rw[h0,hp,hu];simp only[asAddr,Sem.run_pure,Result.andThen_ok]
 go_simp
theorem BV{W:Ai}{b:Nat}{v:Ao}{T:Cg}(h:W.heap[b]? =Z (Am #[v] T (0,0))):W.cell? ⟨b,0,H⟩=Z v:=by rw[Aq _ _ _ _ _ _ h];rfl
theorem CV{W:Ai}{b:Nat}{v:Ao}{T:Cg}(h:W.heap[b]? =Z (Am #[v] T (0,0))):W.frozen? ⟨b,0,H⟩=Ay:=by simp[Ai.frozen?,h]
theorem DN{W:Ai}{b:Nat}{v v':Ao}{T:Cg}(h:W.heap[b]? =Z (Am #[v] T (0,0))):(W.setCell ⟨b,0,H⟩ v').heap[b]? =Z (Am #[v'] T (0,0)):=by
 rw[A8 W b 0 _ _ v' h];rfl
theorem R7{w W w8:Ai}{l:List Int}{q:Nat}{v:Ao}(hi:W.heap[q+1+1]? =Z (Am #[v] 116 (0,0))/\W.heap[q]? =Z (Am #[Ak H 0 0] 116 (0,0))/\W.heap[q+1]? =Z (Am #[z Ad 0] 24 (0,0))/\Ap w.heap.size w W)(hb:Ap W.heap.size W w8)(h0:¬ ∃ O,FrmL O/\Fm O=l)(hq:q=w.heap.size){L:Nat}{pre:List (UM L)}:
 KeepsOthers W ((w8.setCell ⟨q,0,H⟩ (Ak H 0 0)).setCell ⟨q+1,0,H⟩ (z Ad 3))/\wD w l q (q+1) .ret pre ((w8.setCell ⟨q,0,H⟩ (Ak H 0 0)).setCell ⟨q+1,0,H⟩ (z Ad 3)):=by
 obtain⟨_,i2,i3,i4⟩:=hi;have k2:=(hb.block _ (Ah.1 i2).1).trans i2;have k3:=(hb.block _ (Ah.1 i3).1).trans i3;have h1:(w8.setCell ⟨q,0,H⟩ (Ak H 0 0)).heap[q]? =Z (Am #[Ak H 0 0] 116 (0,0)):=DN k2;have h2:(w8.setCell ⟨q,0,H⟩ (Ak H 0 0)).heap[q+1]? =Z (Am #[z Ad 0] 24 (0,0)):=(AN w8 ⟨q,0,H⟩ (q+1) _ (by show q+1≠q;omega)).trans k3;refine⟨((J6 hb).trans (KeepsOthers.setCell _ _ _)).trans (KeepsOthers.setCell _ _ _),rfl,h0,(AN _ ⟨q+1,0,H⟩ q _ (by show q≠q+1;omega)).trans h1,DN h2,?_⟩;exact(i4.trans (((hb.mono i4.size).setCell (p:=⟨q,0,H⟩) (by show w.heap.size<=q;omega) _).setCell (p:=⟨q+1,0,H⟩) (by show w.heap.size<=q+1;omega) _))
attribute [local go_sem] BE.semAt_some
theorem Rd{w:Ai}{v:Ao}{l:List Int}(hs:BSl w v l)(hl:l.length<=100000)(NX:l.length%16=0):Av Ae 97 #[v] w (kS l w):=by
 obtain⟨ao,cap,rfl,Cx⟩:=hs.shape;obtain⟨vb,vo,vr⟩:∃ vb vo,0<l.length->ao=Z ⟨vb,vo,H⟩/\vb<w.heap.size:=by
  by_cases h0:0<l.length
  . obtain⟨b,off,c,e,_,hb⟩:=hs.open' h0
    exact⟨b,off,fun _=>⟨(AY e).1,hb⟩⟩
  . exact⟨0,0,fun h=>absurd h h0⟩
 obtain⟨L,hL⟩:=nm l.length;have e1:(L:Int).tmod 16=0:=by rw[DT (by omega)];omega
 have e2:(L:Int)%16=0:=by omega
 obtain⟨q,hq⟩:=nm w.heap.size;have vt:L<=cap:=by omega
 have hL1:L<=1000000:=by omega
 have HAO:Hid (0<L->ao=Z ⟨vb,vo,H⟩):=wM fun h=>(vr (by omega)).1
 have HPB:Hid (∀ W,Ap w.heap.size w W->∀ j t o,256*j<L->t=min 256 (L-256*j)->o=vo+256*j->BSl W (Ak (Z ⟨vb,o,H⟩) t t) (Eu l j)):=wM fun W hb j t o hj ht ho=>by
  obtain⟨rfl,_⟩:=vr (by omega);have h1:=(hs.below hb).mid (256*j) t (by omega);rw[ho];have e:(l.drop (256*j)).take t=Eu l j:=by
   unfold Eu;rw[ht];by_cases c:L-256*j<=256
   . rw[AR (by rw[Bn];omega),AR (by rw[Bn];omega)]
   . rw[show min 256 (L-256*j)=256 by omega]
  rw[e] at h1;exact oc h1 (by rw[I2];omega)
 have HLL:=wM hL;have H16:=wM NX;rw[<- hL];clear hs hl NX Cx vr hL;refine(Di (n:=9)).1 ?_;refine callsIn_of_wp_marks Tryz.func97 rfl trivial ?_ rfl;simp only[Tryz.ntmps97,List.size_toArray,Bm,List.length_nil,Nat.reduceAdd,Nat.reduceSub,Array.replicate_succ,Array.replicate_zero,List.push_toArray,List.append_toArray,List.nil_append,List.cons_append]
 gi_wp2_with (refine⟨trivial,?_⟩;gi_at_call 136;refine(Di.2 (bG ao L cap _)).mono ?_;rintro e w2 ⟨rfl,hw2⟩)
 rw[<- hw2];obtain⟨g1,g2,g3,g4,g5,gs,gb⟩:=jU w _ _ _ _ _ _ _ _ _ _ hw2;rw[<- hq] at g1 g2 g3 g4 g5 gs |-
 have HG4:=wM g4;have HG5:=wM g5;have HGS:=wM gs;have HGB:=wM gb;have HQ:=wM hq;have ml:wn w l w2.heap.size (q+1+1) q (q+1) (L:=L) [] w2:=⟨⟨_,[],g3,PartsD.nil l,YB _ _ _⟩,g1,g2,gb,At _⟩;clear hw2 g1 g2 g3 hq
 refine wpIn_rangeFunc_ownF rfl (by decide) (gf:=176) (lb:=#[Al (Z ⟨q+1+1+1,0,H⟩),Al (Z ⟨q+1+1+1+1,0,H⟩)]) rfl trivial (enters_of Tryz.func176 (by kernel_rfl) rfl)
  (U6 (n:=8) (by decide) HAO.out vt hL1 (w:=w2) (sB:=q+1+1+1) (nB:=q+1+1+1+1) (by omega) (by omega) (BV g4) (BV g5)) (fun h k=>⟨k.1.trans h.1,k.2.trans h.2⟩)
  (fun W l' o o' hl' _ _ _=>⟨World.putObj_heap_other (by omega),World.putObj_heap_other (by omega)⟩) (AC _ _) (fun _=>rfl)
  (fun pre W=>wn w l w2.heap.size (q+1+1) q (q+1) pre W) (fun c pre W=>wD w l q (q+1) c pre W)
  ?hI ?hIx ml (fun x=>{ tmps:=#[Ak ao L cap,undef,Al (Z ⟨q,0,H⟩),Al (Z ⟨q+1,0,H⟩),Al (Z ⟨q+1+1,0,H⟩),Ak (Z ⟨vb,vo+256*x.1,H⟩) (min 256 (L-256*x.1)) (min 256 (L-256*x.1)),undef,undef,undef,Ak ao L cap,z Ad L,z Ad 0,AP Ay,Ak ao L cap,.func (.func 176) #[] #[Al (Z ⟨q+1+1+1,0,H⟩),Al (Z ⟨q+1+1+1+1,0,H⟩)],Ak (Z ⟨vb,vo+256*x.1,H⟩) (min 256 (L-256*x.1)) (min 256 (L-256*x.1)),undef,undef,undef,undef,undef,undef,undef,undef,undef,undef,undef,undef,undef,undef,undef,undef,undef,undef,undef,undef,undef,undef,undef],defers:=[] }) ?assign ?body ?done ?stop
 case hI=>exact oG L gb.size (by omega) (by omega) (by omega)
 case hIx=>exact fun c=>mC L gb.size (by omega) (by omega) c
 case assign=>
  intro l' x W K hK;clear gs;unfold oW
  gi_wp2
  exact hK
 case body=>
  rintro l' pre ⟨j,hj⟩ W ⟨⟨v,E,ha,hb,hc⟩,hd,he,hf,tB⟩ hlen;have HWS:=wM tB;clear tB;obtain⟨t,ht⟩:=nm (min 256 (L-256*j));obtain⟨o,ho⟩:=nm (vo+256*j);simp only[];rw[<- ht,<- ho];have hpb:=HPB.out W hf j t o hj ht ho;have HT:Hid (t=(Eu l j).length):=wM (by rw[I2,ht,HLL.out]);have HT16:Hid ((Eu l j).length%16=0):=wM (by have:=HLL.out;have:=H16.out;rw[I2];omega);have HEL:Hid (E.length<=1000000):=wM (by
   have h1:=E6 hb.1;have h2:=Bt List.length hb.2;rw[List.length_flatMap] at h2;have h3:((pre.map (·.1)).map fun a=>(Eu l a).length).sum<=pre.length*256:=by
    have:∀ xs:List Nat,(xs.map fun a=>(Eu l a).length).sum<=xs.length*256:=fun xs=>by
     induction xs with
     |nil=>simp
     |cons x xs ih=>rw[DO,List.sum_cons,Bm,I2];omega
    have:=this (pre.map (·.1))
    rwa [Ba] at this
   omega)
  obtain⟨ao',c',rfl⟩:=(ER.sl hc).shape;have bC:t<=256:=by omega
  have ht16:16<=t:=by have:=HT.out;have:=HT16.out;omega
  have HHT:=wM ht;have HJ:=wM hj;clear ht ho hlen;refine wpIn_block ?_;refine wpIn_seq_k fun K6 hK6=>?_
  refine Hs rfl (by rintro⟨_,_,h⟩;exact h) ?_;refine CJ _ rfl _ _ rfl 256 256 rfl rfl rfl (by decide) ?_;have hb6:=As W (Am (AK 256 (z .u8 0)) 5);have ZU:=Ar W (Am (AK 256 (z .u8 0)) 5);obtain⟨w6,hw6⟩:=nm (W.alloc (Am (AK 256 (z .u8 0)) 5));rw[<- hw6] at hb6 ZU |-
  obtain⟨gB,Xc⟩:=nm W.heap.size;rw[<- Xc] at ZU |-
  have HGQ:=wM Xc;have HB6:=wM hb6;have HPB6:=wM (hpb.below hb6);have HN6:Hid (w6.heap[gB]? =Z (Am (Aw 256 (z .u8 0)).toArray 5 (0,0))):=wM (by rw[List.toArray_replicate];exact ZU);have HSRC:Hid (0<((Eu l j).map (z .u8)).length->∃ ad,Z (⟨vb,o,H⟩:Addr)=Z ad/\∀ i v,((Eu l j).map (z .u8))[i]? =Z v->w6.cell? (ad.add i)=Z v):=wM fun h0=>by
   have:=Fi HPB6.out (fun _ _=>rfl) t;rw[AR (by have:=HT.out;omega)] at this;exact this h0
  clear hw6 Xc ZU hb6 hpb;go_wp2;refine wpIn_seq_k fun K7 hK7=>?_
  refine Hs rfl (by rintro⟨_,_,h⟩;exact h) ?_;go_wp2_with (refine C6 rfl _ _ 77 77 rfl 5 Tryz.underlying77 (by kernel_rfl) _ _ 256 256 t t rfl rfl gB 0 (Aw 256 (z .u8 0)) 5 HN6.out ((Eu l j).map (z .u8)) t (by rw[Ba];exact HT.out.symm) (FL bC).symm (fun h0=>⟨rfl,HSRC.out h0⟩) (by rw[Ba,A3,<- HT.out];omega) (fun x hx=>by obtain⟨y,_,rfl⟩:=BZ.1 hx;rfl) ?_;intro w7 HC7 hw7;have HW7:=wM hw7;clear hw7)
  have HB7:Hid (Ap W.heap.size W w7):=wM (HB6.out.trans (HW7.out.below (DU HGQ.out.symm)));have HBL:Hid (BSl w7 (Ak (Z ⟨gB,0,H⟩) 256 256) (VU l j)):=wM (by
   have hby:Fv (VU l j):=DL (CH (C3 HPB6.out.1)) (C4 _);refine⟨hby,AW ⟨_,256,by rw[Mc],by rw[Mc];exact At _,fun i hi=>⟨(Ah.1 HC7.out).1,rfl,?_⟩⟩⟩;rw[Mc] at hi;rw[Br,Aq _ _ _ _ _ _ HC7.out];have e:splice (Aw 256 (z .u8 0)) 0 ((Eu l j).map (z .u8))=(VU l j).map (z .u8):=by
    unfold splice VU;rw[List.take_zero,List.nil_append,Br,List.drop_replicate,Cp,List.map_replicate,Ba]
   rw[e];simp[Mc,hi])
  have KD:=wM (kC HBL.out);refine wpIn_seq_k fun K8 hK8=>?_
  refine Hs rfl (by rintro⟨_,_,h⟩;exact h) ?_;have HBAD:Hid ((∀ O,¬ GoodB l j O)->¬ ∃ O,FrmL O/\Fm O=l):=wM rQ;have HI:Hid (W.heap[q+1+1]? =Z (Am #[Ak ao' E.length c'] 116 (0,0))/\W.heap[q]? =Z (Am #[Ak H 0 0] 116 (0,0))/\W.heap[q+1]? =Z (Am #[z Ad 0] 24 (0,0))/\Ap w.heap.size w W):=wM ⟨ha,hd,he,hf⟩;have HE:=wM hb;have HO:=wM hc;clear ha hd he hf hb hc;obtain⟨t16,qD⟩:=nm (t / 16);have HT6:Hid (t16=(Eu l j).length / 16):=wM (by rw[qD,HT.out]);have HT7:Hid (1<=t16/\t16<=16):=wM (by omega);have Q2:Hid ((t:Int) / 16=(t16:Int)):=wM (by omega);clear qD;go_wp2_with (go_at_call 137;(with_reducible refine KD.out.mono ?_);rintro ee w8 (⟨Ob,vu,u,rfl,hsl,hb8⟩| ⟨CU,rfl,hb8⟩);(obtain⟨uo,uc,rfl⟩:=hsl.shape))
  . have HB8:Hid (Ap W.heap.size W w8):=wM (HB7.out.trans (hb8.mono HB7.out.size))
    have HSL:=wM hsl;have HIS:=wM vu;clear hb8 hsl vu KD HBL HC7 HN6 HSRC HPB6 HPB;obtain⟨m,hm⟩:=nm Ob.length;rw[<- hm] at HSL |-
    have HM:=wM hm;clear hm;obtain⟨i1,i2,i3,i4⟩:=HI.out;have l1:(W.heap[q+1+1]? =Z (Am #[Ak ao' E.length c'] 116 (0,0))->w8.heap[q+1+1]? =Z (Am #[Ak ao' E.length c'] 116 (0,0))):=fun h=>(HB8.out.block _ (Ah.1 h).1).trans h
    have k1:=l1 i1;have k2:=(HB8.out.block _ (Ah.1 i2).1).trans i2;have k3:=(HB8.out.block _ (Ah.1 i3).1).trans i3;have HK1:=wM k1;have HK2:=wM k2;have HK3:=wM k3;clear i1 i2 i3 i4 l1 k1 k2 k3;refine wpIn_seq_k fun K9 hK9=>?_
    have HK9:=wM hK9;clear hK9;by_cases MX:m=t16
    . have hgb:((m:Int) != (t:Int) / 16)=Ay:=by rw[bne_eq_false_iff_eq,Q2.out];omega
      have HGOOD:Hid (GoodB l j Ob):=wM ⟨HIS.out,by rw[<- HM.out,MX,HT6.out]⟩;have hm1:1<=m:=(by have:=HT7.out;omega);have hm2:m<=16:=(by have:=HT7.out;omega);have HGL:=wM MX;clear MX;refine wpIn_seq_k fun Kc hKc=>?_
      refine Hs rfl (by rintro⟨_,_,h⟩;exact h) ?_;go_wp2
      gi_wp2
      refine HK9.out _ _ ?_;clear HK9;refine Hs rfl (by rintro⟨_,_,h⟩;exact h) ?_;have vv:w2.heap.size<=w8.heap.size:=AI HWS.out HB8.out.size;have HER8:Hid (ER w8 w2.heap.size 75 (Ak ao' E.length c') E):=wM (HO.out.below HB8.out);have c1:=BV HK1.out
      go_wp2_with (refine LU _ rfl 116 75 _ _ rfl Tryz.underlying116 qh w2.heap.size (Ak ao' E.length c') (Ak uo m uc) E Ob rfl HER8.out HEL.out (by rw[<- HM.out];omega) (by rw[<- HM.out];omega) rfl HSL.out vv ?_
                   intro v9 w9 hr9 hb9 hk9;obtain⟨ao9,c9,hv9⟩:=hr9.sl.shape;rw[AD] at hv9;subst hv9;have k9:w9.heap[q+1+1]? =Z (Am #[Ak ao' E.length c'] 116 (0,0)):=(hb9.block _ (by have:=HGS.out;omega)).trans HK1.out;have c9':=BV k9;have f9':=CV k9)
      have hbs:Ap q W (w9.setCell ⟨q+1+1,0,H⟩ (Ak ao9 (E.length+Ob.length) c9)):=by
       have hx:q<=W.heap.size:=(by rw[HQ.out];exact HI.out.2.2.2.size);exact((HB8.out.mono hx).trans (hb9.mono (by have:=HGS.out;omega))).setCell (p:=⟨q+1+1,0,H⟩) (by show q<=q+1+1;omega) _
      have ho:∀ b,b≠q+1+1->b<w2.heap.size->b<W.heap.size->(w9.setCell ⟨q+1+1,0,H⟩ (Ak ao9 (E.length+Ob.length) c9)).heap[b]? =W.heap[b]? :=fun b h1 h2 h3=>
       (AN w9 ⟨q+1+1,0,H⟩ b _ h1).trans ((hb9.block b h2).trans (HB8.out.block b h3))
      have tB:=HWS.out;have hbs8:w8.heap.size<=(w9.setCell ⟨q+1+1,0,H⟩ (Ak ao9 (E.length+Ob.length) c9)).heap.size:=(by rw[Ai.size_setCell];exact hb9.size);refine⟨((J6 HB8.out).trans hk9).trans (KeepsOthers.setCell _ _ _),⟨ho (q+1+1+1) (by omega) (by have:=HGS.out;omega) (by have:=HGS.out;omega),ho (q+1+1+1+1) (by omega) (by have:=HGS.out;omega) (by have:=HGS.out;omega)⟩,⟨_,E ++ Ob,DN k9,?_,?_⟩,?_,?_,?_,?_⟩
      . rw[Cp]
        exact HE.out.more HGOOD.out HT16.out
      . have h0:ER w9 w2.heap.size 75 (Ak ao9 (E.length+Ob.length) c9) (E ++ Ob):=hr9
        refine⟨h0.1,?_⟩;rcases h0.2 with h0| ⟨g,cap',cur,hv,Xc,hh,r⟩
        . exact AU h0
        . exact AW ⟨g,cap',cur,hv,Xc,(AN w9 ⟨q+1+1,0,H⟩ g _ (by show g≠q+1+1;have:=HGS.out;omega)).trans hh,r⟩
      . rw[ho q (by omega) (by have:=HGS.out;omega) (by have:=HGS.out;omega)];exact HI.out.2.1
      . rw[ho (q+1) (by omega) (by have:=HGS.out;omega) (by have:=HGS.out;omega)];exact HI.out.2.2.1
      . have:=HI.out.2.2.2
        rw[<- HQ.out] at this |-
        exact this.trans hbs
      . exact AI vv hbs8
    . have hgb:((m:Int) != (t:Int) / 16)=AE:=by rw[bne_iff_ne,Q2.out];omega
      have HB0:Hid (¬ ∃ O,FrmL O/\Fm O=l):=wM (HBAD.out fun O hO=>by
       have h1:=dG hO.1 HIS.out;have h2:=hO.2;rw[h1] at h2;exact MX (by rw[HM.out,h2,HT6.out]))
      have c2:=BV HK2.out;have c3:=BV HK3.out;have f2:=CV HK2.out;have f3:=CV HK3.out;clear MX;refine wpIn_seq_k fun Kc hKc=>?_
      refine Hs rfl (by rintro⟨_,_,h⟩;exact h) ?_;go_wp2
      gi_wp2
      exact R7 HI.out HB8.out HB0.out HQ.out
  . have HB8:Hid (Ap W.heap.size W w8):=wM (HB7.out.trans (hb8.mono HB7.out.size))
    have HB0:Hid (¬ ∃ O,FrmL O/\Fm O=l):=wM (HBAD.out fun O hO=>CU O hO.1);clear hb8 CU KD HBL HC7 HN6 HSRC HPB6 HPB;obtain⟨i1,i2,i3,i4⟩:=HI.out;have k2:=(HB8.out.block _ (Ah.1 i2).1).trans i2;have k3:=(HB8.out.block _ (Ah.1 i3).1).trans i3;have c2:=BV k2;have c3:=BV k3;have f2:=CV k2;have f3:=CV k3;clear i1 i2 i3 i4 k2 k3;refine wpIn_seq_k fun K9 hK9=>?_
    refine wpIn_seq_k fun Kc hKc=>?_
    refine Hs rfl (by rintro⟨_,_,h⟩;exact h) ?_;go_wp2
    gi_wp2
    exact R7 HI.out HB8.out HB0.out HQ.out
 case done=>
  rintro D xs W hD hS ⟨⟨v,E,ha,hb,hc⟩,hd,he,hf,_⟩ hK;obtain⟨ao',c',rfl⟩:=(ER.sl hc).shape;have c1:=BV ha;have c2:=BV hd;have c3:=BV he;have f2:=CV hd;have f3:=CV he;have h1:(W.setCell ⟨q,0,H⟩ (Ak ao' E.length c')).heap[q]? =Z (Am #[Ak ao' E.length c'] 116 (0,0)):=DN hd;have h2:(W.setCell ⟨q,0,H⟩ (Ak ao' E.length c')).heap[q+1]? =Z (Am #[z Ad 0] 24 (0,0)):=(AN W ⟨q,0,H⟩ (q+1) _ (by show q+1≠q;omega)).trans he;have c4:=BV h2;have f4:=CV h2;have hDq:q+1<D:=by have:=HGS.out;omega
  obtain⟨V,hV⟩:=nm ((W.setCell ⟨q,0,H⟩ (Ak ao' E.length c')).setCell ⟨q+1,0,H⟩ (z Ad 0));have k1:V.heap[q]? =Z (Am #[Ak ao' E.length c'] 116 (0,0)):=by rw[hV];exact(AN _ ⟨q+1,0,H⟩ q _ (by show q≠q+1;omega)).trans h1
  have k2:V.heap[q+1]? =Z (Am #[z Ad 0] 24 (0,0)):=by rw[hV];exact DN h2
  have k3:V.heap[D]? =Z (.deferred (Z [])):=by
   rw[hV];exact(AN _ ⟨q+1,0,H⟩ D _ (by show D≠q+1;omega)).trans ((AN W ⟨q,0,H⟩ D _ (by show D≠q;omega)).trans hK)
  have hbV:Ap q w V:=by
   rw[hV];rw[HQ.out];exact(hf.setCell (p:=⟨w.heap.size,0,H⟩) (At _) _).setCell (p:=⟨w.heap.size+1,0,H⟩) (by show w.heap.size<=w.heap.size+1;omega) _
  have HER:Hid (ER V w.heap.size 75 (Ak ao' E.length c') E):=wM (by
   have h0:ER W w2.heap.size 75 (Ak ao' E.length c') E:=hc;have hg:∀ b,w2.heap.size<=b->V.heap[b]? =W.heap[b]? :=fun b hb'=>by
    have:=HGS.out;rw[hV];exact(AN _ ⟨q+1,0,H⟩ b _ (by show b≠q+1;omega)).trans (AN W ⟨q,0,H⟩ b _ (by show b≠q;omega))
   refine⟨h0.1,?_⟩;rcases h0.2 with h0| ⟨g,cap',cur,hv,Xc,hh,r⟩
   . exact AU h0
   . exact AW ⟨g,cap',cur,hv,AI HGB.out.size Xc,(hg g Xc).trans hh,r⟩)
  have HALL:Hid (FrmL E/\Fm E=l):=wM (by
   rw[hS] at hb;exact hb.all (by rw[<- HLL.out];omega))
  clear gs ha hb hc hd he hf hS h1 h2
  gi_wp2
  rw[<- hV];refine⟨by simp,AU ⟨_,_,rfl,run_takeDeferred k3,?_⟩⟩;have m1:(V.putObj D (.deferred H)).heap[q]? =Z (Am #[Ak ao' E.length c'] 116 (0,0)):=(World.putObj_heap_other (by omega)).trans k1;have m2:(V.putObj D (.deferred H)).heap[q+1]? =Z (Am #[z Ad 0] 24 (0,0)):=(World.putObj_heap_other (by omega)).trans k2;refine⟨_,LL rfl _ _ q (q+1) _ _ _ _ rfl rfl m1 m2,AU ⟨E,HALL.out.1,HALL.out.2,_,rfl,?_,?_⟩⟩
  . exact VG HER.out (grownBy_putObj' V D _) (fun r e=>by cases e;exact⟨_,k3,rfl⟩)
  . rw[<- HQ.out]
    exact hbV.trans (belowK_b (w:=w2) (by have:=HGS.out;omega) V D _ _ hD k3 rfl rfl)
 case stop=>
  rintro D c pre W hD _ ⟨rfl,hb,hd,he,hf⟩ hK;have hDq:q+1<D:=by have:=HGS.out;omega
  clear gs
  gi_wp2
  refine⟨by simp,AU ⟨_,_,rfl,run_takeDeferred hK,?_⟩⟩;have m1:(W.putObj D (.deferred H)).heap[q]? =Z (Am #[Ak H 0 0] 116 (0,0)):=(World.putObj_heap_other (by omega)).trans hd;have m2:(W.putObj D (.deferred H)).heap[q+1]? =Z (Am #[z Ad 3] 24 (0,0)):=(World.putObj_heap_other (by omega)).trans he;refine⟨_,LL rfl _ _ q (q+1) _ _ _ _ rfl rfl m1 m2,AW ⟨hb,rfl,?_⟩⟩;rw[<- HQ.out] at hf |-
  exact hf.trans (belowK_b (w:=w2) (by have:=HGS.out;omega) W D _ _ hD hK rfl rfl)
theorem Tz{w:Ai}{v:Ao}{l:List Int}(hs:BSl w v l)(hl:l.length<=100000)(NX:¬ l.length%16=0):Av Ae 97 #[v] w (kS l w):=by
 obtain⟨ao,cap,rfl,Cx⟩:=hs.shape;obtain⟨L,hL⟩:=nm l.length;obtain⟨r,hr⟩:=nm (L%16);have e1:(L:Int).tmod 16=(r:Int):=by rw[DT (by omega)];omega
 have e2:(L:Int)%16=(r:Int):=by omega
 have e3:0<(r:Int):=by omega
 have HL:Hid (L<=100000):=wM (by omega);have HNO:Hid (¬ ∃ O,FrmL O/\Fm O=l):=wM fun⟨O,a,b⟩=>NX (by rw[<- b,E6 a];omega)
 rw[<- hL];have Xa:L<=100000:=HL.out;have hb1:=As w (Am #[Ak H 0 0] 116);have FV:=Ar w (Am #[Ak H 0 0] 116);have IL:(w.alloc (Am #[Ak H 0 0] 116)).heap.size=w.heap.size+1:=World.size_alloc _ _;obtain⟨w1,hw1⟩:=nm (w.alloc (Am #[Ak H 0 0] 116));rw[<- hw1] at hb1 FV IL;have hb2:=As w1 (Am #[z Ad 0] 24);have L1:=Ar w1 (Am #[z Ad 0] 24);obtain⟨w2,hw2⟩:=nm (w1.alloc (Am #[z Ad 0] 24));rw[<- hw2] at hb2 L1;rw[IL] at L1;have k1:w2.heap[w.heap.size]? =Z (Am #[Ak H 0 0] 116 (0,0)):=(hb2.block _ (by omega)).trans FV;have HB:Hid (Ap w.heap.size w w2):=wM (hb1.trans (hb2.mono (by omega)));have HW:Hid (((w.alloc (Am #[Ak H 0 0] 116)).alloc (Am #[z Ad 0] 24))=w2):=wM (by rw[<- hw1,<- hw2]);have c2:=BV k1;have c3:=BV L1;have f2:=CV k1;have f3:=CV L1;have HK1:=wM k1;have HK2:=wM L1;clear hs hl NX hL hr hw1 hw2 hb1 hb2 FV L1 IL k1 Cx HL;refine(Di (n:=9)).1 ?_;refine callsIn_of_wp_marks Tryz.func97 rfl trivial ?_ rfl;simp only[Tryz.ntmps97,List.size_toArray,Bm,List.length_nil,Nat.reduceAdd,Nat.reduceSub,Array.replicate_succ,Array.replicate_zero,List.push_toArray,List.append_toArray,List.nil_append,List.cons_append];refine wpIn_wide.2 ?_;go_upto_region 1 with(fail)
 rw[HW.out];go_wp2;have m1:((w2.setCell ⟨w.heap.size,0,H⟩ (Ak H 0 0)).setCell ⟨w.heap.size+1,0,H⟩ (z Ad 3)).heap[w.heap.size]? =Z (Am #[Ak H 0 0] 116 (0,0)):=(AN _ ⟨w.heap.size+1,0,H⟩ _ _ (by show w.heap.size≠w.heap.size+1;omega)).trans (DN HK1.out);have m2:((w2.setCell ⟨w.heap.size,0,H⟩ (Ak H 0 0)).setCell ⟨w.heap.size+1,0,H⟩ (z Ad 3)).heap[w.heap.size+1]? =Z (Am #[z Ad 3] 24 (0,0)):=DN ((AN _ ⟨w.heap.size,0,H⟩ _ _ (by show w.heap.size+1≠w.heap.size;omega)).trans HK2.out);refine⟨_,LL rfl _ _ w.heap.size (w.heap.size+1) _ _ _ _ rfl rfl m1 m2,AW ⟨HNO.out,rfl,?_⟩⟩;exact(HB.out.setCell (p:=⟨w.heap.size,0,H⟩) (At _) _).setCell (p:=⟨w.heap.size+1,0,H⟩) (by show w.heap.size<=w.heap.size+1;omega) _
theorem Wg{w:Ai}{v:Ao}{l:List Int}(hs:BSl w v l)(hl:l.length<=100000):Av Ae 97 #[v] w (kS l w):=by
 by_cases NX:l.length%16=0
 . exact Rd hs hl NX
 . exact Tz hs hl NX
theorem ER.more{w:Ai}{B B':Nat}{T:Cg}{v:Ao}{O:List GW}(h:ER w B T v O)(hB:B'<=B):ER w B' T v O:=by
 refine⟨h.1,?_⟩;rcases h.2 with h| ⟨g,cap,cur,hv,hg,r⟩
 . exact AU h
 . exact AW ⟨g,cap,cur,hv,AI hB hg,r⟩
def VQ(a b:ByteArray):Bool:=a.toList==b.toList
theorem eqS_iff{a b:ByteArray}:VQ a b=AE ↔ a=b:=by
 unfold VQ;rw[Da,B0,B0];exact⟨fun h=>ByteArray.ext (Array.ext' h),fun h=>by rw[h]⟩
def Dr(l:List GW)(s:ByteArray):Nat:=l.findIdx fun e=>VQ e.2 s
def Gk(l:List GW)(s:ByteArray):Int:=if Dr l s<l.length then (Dr l s:Int) else -1
theorem idxN_none{l:List GW}{s:ByteArray}:Dr l s=l.length ↔ ∀ e∈l,e.2≠s:=by
 unfold Dr;rw[List.findIdx_eq_length];constructor
 . intro h e he k
   have:=h e he;rw[eqS_iff.2 k] at this;cases this
 . intro h e he
   cases c:VQ e.2 s
   . rfl
   . exact absurd (eqS_iff.1 c) (h e he)
theorem T6{l:List GW}{s:ByteArray}{k:Nat}(hk:k<l.length)(h1:VQ (l.getD k default).2 s=AE)(h2:∀ j,j<k->VQ (l.getD j default).2 s=Ay):Gk l s=(k:Int):=by
 have e:Dr l s=k:=by
  unfold Dr;rw[List.findIdx_eq hk];refine⟨by rw[Gq _ hk] at h1;exact h1,fun j hj=>?_⟩;have:=h2 j hj;rw[Gq _ (by omega)] at this;exact this
 unfold Gk;rw[e,Au hk]
theorem NG{l:List GW}{s:ByteArray}(h2:∀ j,j<l.length->VQ (l.getD j default).2 s=Ay):Gk l s= -1:=by
 have e:Dr l s=l.length:=idxN_none.2 fun e he k=>by
  obtain⟨j,hj,rfl⟩:=Cw he;have:=h2 j hj;rw[Gq _ hj,eqS_iff.2 k] at this;cases this
 unfold Gk;rw[e,Ax (Nat.lt_irrefl _)]
theorem Vo(x:GW)(s:ByteArray){bx:Nat}{w:Ai}(hc:w.cell? ⟨bx,0,H⟩=Z (.string s))(hb:bx<w.heap.size):Av Ae 100 #[BN #[z Ad x.1,.string x.2],Al (Z ⟨bx,0,H⟩)] w fun e w'=>e=Aj (AP (VQ x.2 s))/\Ap w.heap.size w w':=by
 obtain⟨i,t⟩:=x;have c1:(w.alloc (Am #[z Ad i,.string t] 75)).cell? ⟨bx,0,H⟩=Z (.string s):=((As w _).cell (p:=⟨bx,0,H⟩) hb).trans hc;obtain⟨c,hcc⟩:=nm (VQ t s);have hq:(t.toList==s.toList)=c:=hcc.symm;show Av Ae 100 _ w fun e w'=>e=Aj (AP (VQ t s))/\_
 rw[<- hcc];clear hcc;go_enter Tryz.func100,Tryz.ntmps100;go_wp2;go_ret;exact⟨rfl,As w _⟩
theorem fg{w:Ai}{v:Ao}{l:List GW}(hs:ESl w v l)(hl:l.length<=1000000)(s:ByteArray){bx:Nat}(hc:w.cell? ⟨bx,0,H⟩=Z (.string s))(hb:bx<w.heap.size):
 Av Ae 99 #[v,.func (.func 100) #[] #[Al (Z ⟨bx,0,H⟩)]] w fun e w'=>e=Aj (z Ad (Gk l s))/\Ap w.heap.size w w':=by
 obtain⟨ao,cap,rfl,Gs⟩:=hs.open';obtain⟨n,hn⟩:=nm l.length
 have HK:Hid (∀ (W:Ai) (k:Nat),Ap w.heap.size w W->k<n->∃ b off i t,ao=Z ⟨b,off,H⟩/\W.cell? ⟨b,off+k*2,H⟩=Z (z Ad i)/\W.cell? ⟨b,off+k*2+1,H⟩=Z (.string t)/\t=(l.getD k default).2/\
  Av Ae 100 #[BN #[z Ad i,.string t],Al (Z ⟨bx,0,H⟩)] W fun e w'=>e=Aj (AP (VQ t s))/\Ap w.heap.size w w'):=wM fun W k hW hk=>by
  obtain⟨b,off,e,hlt,hc2⟩:=Gs (by omega);obtain⟨a1,a2⟩:=hc2 k (by omega);refine⟨b,off,_,_,e,(hW.cell (p:=⟨b,off+k*2,H⟩) hlt).trans a1,(hW.cell (p:=⟨b,off+k*2+1,H⟩) hlt).trans a2,rfl,?_⟩;exact(Vo (l.getD k default) s ((hW.cell (p:=⟨bx,0,H⟩) hb).trans hc) (AA hb hW.size)).mono fun e w' ⟨he,h2⟩=>⟨he,hW.trans (h2.mono hW.size)⟩
 have HN:=wM hn;rw[<- hn] at hl |-
 clear hs Gs hc hb hn;go_enter Tryz.func99,Tryz.ntmps99;go_wp2;go_loopw [5,8] (fun _ s8 wr=>∃ k:Nat,k<=n/\s8=z Ad k/\Hid (∀ j,j<k->VQ (l.getD j default).2 s=Ay)/\Hid (Ap w.heap.size w wr)) (fun _ s8 _=>n-(intOf s8).toNat)
 case atStart=>exact⟨0,AT _,rfl,wM fun j hj=>absurd hj (A9 j),wM (AC _ _)⟩
 case round=>
  obtain⟨k,hk,rfl,HA,HB⟩:=hrel;by_cases hlt:k<n
  . have gH:(k:Int)<(n:Int):=by omega
    obtain⟨b,off,i,t,rfl,c1,c2,ht,Jb⟩:=HK.out wr k HB.out hlt;have KC:=wM Jb;have HT:=wM ht;have HKK:=HK;clear Jb ht HK;cases hq:VQ t s
    . rw[hq] at KC
      have HQ:=wM hq;clear hq;go_wp2_with (go_at_call 100;(with_reducible refine KC.out.mono ?_);rintro e w3 ⟨rfl,hb3⟩)
      go_roundw
      case rel=>exact⟨k+1,by omega,by go_num,wM fun j hj=>(by
       rcases Nat.lt_or_eq_of_le (Nat.le_of_lt_succ hj) with h|h
       . exact HA.out j h
       . rw[h,<- HT.out];exact HQ.out),wM hb3⟩
      case measure=>simp[intOf];omega
    . rw[hq] at KC
      have HI:Hid (Gk l s=(k:Int)):=wM (T6 (by have:=HN.out;omega) (by rw[<- HT.out];exact hq) HA.out);clear hq;go_wp2_with (go_at_call 100;(with_reducible refine KC.out.mono ?_);rintro e w3 ⟨rfl,hb3⟩)
      go_ret;exact⟨by rw[HI.out];rfl,hb3⟩
  . obtain rfl:k=n:=by omega
    have HI:Hid (Gk l s= -1):=wM (NG fun j hj=>HA.out j (by have:=HN.out;omega));go_wp2;go_ret;exact⟨by rw[HI.out];rfl,HB.out⟩
theorem QM{w:Ai}{v:Ao}{l:List GW}(hs:ESl w v l)(hl:l.length<=1000000)(s:ByteArray):Av Ae 53 #[v,.string s] w fun e w'=>e=Aj (z Ad (Gk l s))/\Ap w.heap.size w w':=by
 obtain⟨ao,cap,rfl⟩:=hs.shape;obtain⟨n,hn⟩:=nm l.length;have hb1:=As w (Am #[.string s] 9);have FV:=Ar w (Am #[.string s] 9);have K:=wM (fg (hs.below hb1) hl s (bx:=w.heap.size) (by rw[Aq _ _ _ _ _ _ FV];rfl) (Ah.1 FV).1);have HB:=wM hb1;rw[<- hn] at K |-
 clear hs hl hn hb1 FV;go_enter Tryz.func53,Tryz.ntmps53;go_wp2_with (go_at_call 99;(with_reducible refine K.out.mono ?_);rintro e w3 ⟨rfl,hb3⟩)
 go_ret;exact⟨rfl,HB.out.trans (hb3.mono HB.out.size)⟩
section
variable {w:Ai}{P:Nat->Prop}{d p:Ao}{X:XSt}{S:List Int}{N:List (List Int)}{O:List (Int × Int)}{kk:Nat}{F:Nat->List Int}{bf n sz:Nat}{M:Nat->Option (List Int)}
theorem dZ(h:Frd w P d p X S N O kk F bf)(ft:Fat X.cur N F n sz M)(hk:Cy N n=2)(h1:1<=n)(BG:n<48):
 Av Ae 51 #[Al (Z ⟨bf,0,H⟩),z Ad n] w (kS (JI M 0 sz) w):=by
 have KG0:=He (W:=w) h.inv h.fs h.tab h1 BG (AC _ _);have hx:=h.tab.n.get BG;have hz:=ft.zs;have lU:=ft.sb;have KR:Hid (∀ V,Ap w.heap.size w V->Av Ae 96 #[Al (Z ⟨bf,0,H⟩),z Ad n,z Ad 0,z Ad sz] V fun e w'=>∃ ao c,e=Aj (AH #[Ak ao sz c,z Ad 0])/\BSl w' (Ak ao sz c) (JI M 0 sz)/\Ap V.heap.size V w'):=wM fun V hV=>by
  refine(RW (h.low hV) ft h1 BG (a:=0) (m:=sz) (by omega) (by omega)).mono ?_;rintro e w' ⟨v,he,hv,hb⟩;rw[show min sz (sz-0)=sz by omega] at hv;obtain⟨ao,c,rfl,_⟩:=hv.bsl.shape;have hv2:=hv.bsl;rw[FI] at he hv2;exact⟨ao,c,he,hv2,hb⟩
 unfold Cy at hk;unfold num at hz;generalize N.getD n []=x at KG0 hx hk hz;obtain⟨kd,ln,sz',d0,d1,d2,d3,d4,d5,d6,d7,d8,d9,mp,rfl⟩:=LZ hx;have Ur:kd=2:=hk;have vx:sz'=(sz:Int):=hz;subst Ur;subst vx;have KG:Hid (Av Ae 13 #[Al (Z ⟨bf,0,H⟩),z Ad n] w fun e w'=>e=Aj (AH #[BN #[z Ad 2,z Ad ln,z Ad sz,z Ad d0,z Ad d1,z Ad d2,z Ad d3,z Ad d4,z Ad d5,z Ad d6,z Ad d7,z Ad d8,z Ad d9,z Ad mp],z Ad 0])/\Ap w.heap.size w w'):=wM KG0;have KD:Hid (∀ (V:Ai) (v:Ao),BSl V v (JI M 0 sz)->Av Ae 97 #[v] V (kS (JI M 0 sz) V)):=wM fun V v hv=>Wg hv (by rw[FI];omega)
 clear KG0 h hx hk hz ft lU;go_enter Tryz.func51,Tryz.ntmps51
 go_wp2_with (first
  |(go_at_call 13;refine KG.out.mono ?_;rintro e w2 ⟨rfl,hb2⟩
    have hb3:=hb2.trans ((As w2 (Am #[z Ad 2,z Ad ln,z Ad sz,z Ad d0,z Ad d1,z Ad d2,z Ad d3,z Ad d4,z Ad d5,z Ad d6,z Ad d7,z Ad d8,z Ad d9,z Ad mp] 44)).mono hb2.size))
  |(go_at_call 96;refine(KR.out _ hb3).mono ?_;rintro e w4 ⟨ao,c,rfl,hv4,hb4⟩;have hb5:=hb3.trans (hb4.mono hb3.size))
  |(go_at_call 97;refine(KD.out _ _ hv4).mono ?_;rintro e w6 (⟨D,q1,q2,v,rfl,q3,q4⟩| ⟨q1,rfl,q4⟩);(obtain⟨uo,uc,rfl⟩:=q3.sl.shape)))
 . go_ret2
   exact AU ⟨D,q1,q2,_,rfl,q3.more hb5.size,hb5.trans (q4.mono hb5.size)⟩
 . go_ret2
   exact AW ⟨q1,rfl,hb5.trans (q4.mono hb5.size)⟩
end
structure Nd where
 kd:Nat
 L:List GW
 tg:List Int
def Nd.sz(x:Nd):Nat:=if x.kd=2 then 16*x.L.length else x.tg.length
def Nd.M(x:Nd):Nat->Option (List Int):=wrL (fun _=>H) 0 x.tg
abbrev EV:=Nat->Option Nd
def Rl(T:EV)(d:Int)(i:Nat):Bool:=match T i with
 |none=>Ay
 |some x=>decide (x.kd=2) && x.L.any fun e=>e.1==d
def Tq(T:EV)(d:Int):Nat:=((Bu 48).find? (Rl T d)).getD 1
section
variable {T:EV}{d:Int}{k:Nat}{x:Nd}
theorem jQ(hk:k<48)(h1:Rl T d k=AE)(h2:∀ j,j<k->Rl T d j=Ay):Tq T d=k:=by
 have:(Bu 48).find? (Rl T d)=Z k:=List.find?_range_eq_some.2 ⟨h1,Bd.2 hk,fun j hj=>by rw[h2 j hj];rfl⟩;unfold Tq;rw[this];rfl
theorem VX(h2:∀ j,j<48->Rl T d j=Ay):Tq T d=1:=by
 have:(Bu 48).find? (Rl T d)=H:=List.find?_range_eq_none.2 fun j hj=>by rw[h2 j hj];rfl
 unfold Tq;rw[this];rfl
end
abbrev Yg:=(Int × ByteArray × Int) × Int
def M6(e:Int):Yg:=((0,⟨#[]⟩,0),e)
structure OkT (T:EV):Prop where
 root:∃ x,T 1=Z x/\x.kd=2
 hi:∀ i x,T i=Z x->1<=i/\i<48
 kd:∀ i x,T i=Z x->x.kd=1\/x.kd=2\/x.kd=3
 ent:∀ i x,T i=Z x->∀ e∈x.L,∃ (n:Nat) (y:Nd),e.1=(n:Int)/\T n=Z y
 len:∀ i x,T i=Z x->x.L.length<=48
 file:∀ i x,T i=Z x->x.kd≠2->x.L=[]
 link:∀ i x,T i=Z x->x.tg.length<=200/\Fv x.tg/\(x.kd=3 ↔ 1<=x.tg.length)
theorem aP{T:EV}(h:OkT T)(d:Int):∃ x,T (Tq T d)=Z x/\x.kd=2/\Tq T d<48:=by
 unfold Tq;cases c:(Bu 48).find? (Rl T d) with
 |none=>obtain⟨x,a,b⟩:=h.root;exact⟨x,a,b,by decide⟩
 |some k=>
  have h1:=List.find?_some c;have h2:=Bd.1 (List.mem_of_find?_eq_some c);show ∃ x,T k=Z x/\x.kd=2/\k<48
  unfold Rl at h1;cases hT:T k with
  |none=>rw[hT] at h1;cases h1
  |some x=>
   rw[hT] at h1;have h1:(decide (x.kd=2) && x.L.any fun e=>e.1==d)=AE:=h1;rw[AQ] at h1;exact⟨x,rfl,AX h1.1,h2⟩
open Classical in
noncomputable def IF(T:EV)(fo:Bool)(a f:Nat)(l:List ByteArray):Yg:=
 match l with
 |[]=>(((a:Int),⟨#[]⟩,(a:Int)),0)
 |s :: r=>
  if (s.toList==[46])=AE then IF T fo a f r
  else if (s.toList==[46,46])=AE then IF T fo (Tq T a) f r
  else match T a with
  |none=>M6 0
  |some x=>
   if Dr x.L s<x.L.length then
    match T (x.L.getD (Dr x.L s) default).1.toNat with
    |none=>M6 0
    |some y=>
     if y.kd=3/\(r≠[]\/fo=AE) then
      if h4:4<f+1 then M6 11
      else if OkP (BX y.tg) then
       if h20:20<(BL (BX y.tg) ++ r).length then M6 10
       else IF T fo (if (BX y.tg).data.toList.head? =Z 47 then 1 else a) (f+1) (BL (BX y.tg) ++ r)
      else M6 10
     else if r=[] then (((a:Int),s,(x.L.getD (Dr x.L s) default).1),0)
     else if y.kd≠2 then M6 6
     else IF T fo (x.L.getD (Dr x.L s) default).1.toNat f r
   else if r=[] then (((a:Int),s,0),0)
   else M6 4
termination_by (5-f)*21+l.length
decreasing_by
 all_goals simp only[Bm]
 all_goals omega
section
variable {T:EV}{fo:Bool}{a f:Nat}{s:ByteArray}{r:List ByteArray}{x y:Nd}
theorem TZ:IF T fo a f []=(((a:Int),⟨#[]⟩,(a:Int)),0):=by rw[IF]
theorem aT(h:(s.toList==[46])=AE):IF T fo a f (s :: r)=IF T fo a f r:=by rw[IF,Au h]
theorem jd(h1:(s.toList==[46])=Ay)(h:(s.toList==[46,46])=AE):IF T fo a f (s :: r)=IF T fo (Tq T a) f r:=by rw[IF,Ax (by rw[h1];decide),Au h]
theorem TO(h1:(s.toList==[46])=Ay)(h2:(s.toList==[46,46])=Ay)(hx:T a=Z x)(hi:¬ Dr x.L s<x.L.length):IF T fo a f (s :: r)=if r=[] then (((a:Int),s,0),0) else M6 4:=by
 rw[IF,Ax (by rw[h1];decide),Ax (by rw[h2];decide),hx]
 dsimp only
 rw[Ax hi]
open Classical in
theorem SM(h1:(s.toList==[46])=Ay)(h2:(s.toList==[46,46])=Ay)(hx:T a=Z x)(hi:Dr x.L s<x.L.length){n:Nat}(hn:(x.L.getD (Dr x.L s) default).1=(n:Int))(hy:T n=Z y):
 (y.kd=3/\(r≠[]\/fo=AE)->(4<f+1->IF T fo a f (s :: r)=M6 11)/\
   (¬ 4<f+1->(¬ OkP (BX y.tg)->IF T fo a f (s :: r)=M6 10)/\
     (OkP (BX y.tg)->IF T fo a f (s :: r)=if 20<(BL (BX y.tg) ++ r).length then M6 10 else IF T fo (if (BX y.tg).data.toList.head? =Z 47 then 1 else a) (f+1) (BL (BX y.tg) ++ r))))/\
 (¬ (y.kd=3/\(r≠[]\/fo=AE))->IF T fo a f (s :: r)=if r=[] then (((a:Int),s,(n:Int)),0) else if y.kd≠2 then M6 6 else IF T fo n f r):=by
 have e:IF T fo a f (s :: r)=if y.kd=3/\(r≠[]\/fo=AE) then
         if h4:4<f+1 then M6 11
         else if OkP (BX y.tg) then
          if h20:20<(BL (BX y.tg) ++ r).length then M6 10
          else IF T fo (if (BX y.tg).data.toList.head? =Z 47 then 1 else a) (f+1) (BL (BX y.tg) ++ r)
         else M6 10
        else if r=[] then (((a:Int),s,(n:Int)),0)
        else if y.kd≠2 then M6 6
        else IF T fo n f r:=by
  rw[IF,Ax (by rw[h1];decide),Ax (by rw[h2];decide),hx]
  dsimp only
  rw[Au hi,hn,Cd,hy]
 rw[e];refine⟨fun h=>?_,fun h=>by rw[Ax h]⟩;rw[Au h];refine⟨fun h4=>by rw[dif_pos h4],fun h4=>?_⟩;rw[dif_neg h4];refine⟨fun ho=>by rw[Ax ho],fun ho=>by rw[Au ho];rfl⟩
end
open Classical in
noncomputable def Nz(T:EV)(s:ByteArray)(fo:Bool):Yg:=if s.data.toList.head? =Z 47 then if OkP s then IF T fo 1 0 (BL s) else M6 10 else M6 9
theorem Kv{s:ByteArray}(h:0<s.size):s.data.toList.head? =Z s[0]:=by
 have:=O8 h;rw[CP] at this;rw[this];rfl
theorem Sx{s:ByteArray}(h:s.size=0):s.data.toList.head? =H:=by rw[p_nil.2 h];rfl
theorem Iy(s:ByteArray)(w:Ai):Av Ae 8 #[.string s] w fun e w'=>(s.data.toList.head? =Z 47/\Zw s w e w')\/(s.data.toList.head? ≠Z 47/\e=Aj (AH #[Ak H 0 0,z Ad 9])/\w=w'):=by
 by_cases h0:0<s.size
 . have uF:s.toList.isEmpty=Ay:=by
    rw[B0];cases c:s.data.toList with
    |nil=>have:=p_nil.1 c;omega
    |cons _ _=>rfl
   have e0:(0:Int)<(s.size:Int):=(by omega);cases h1:((s[0].toNat:Int)==47)
   . have HN:Hid (s.data.toList.head? ≠Z 47):=wM (by rw[Kv h0];intro e;rw[b47.2 (A0 e)] at h1;cases h1)
     go_enter Tryz.func8,Tryz.ntmps8;go_wp2;go_ret2;exact AW ⟨HN.out,rfl,rfl⟩
   . have HY:Hid (s.data.toList.head? =Z 47):=wM (by rw[Kv h0,b47.1 h1])
     have KS:=wM (LG s w);go_enter Tryz.func8,Tryz.ntmps8;go_wp2_with (go_at_call 18;(with_reducible refine KS.out.mono ?_);rintro e w2 ⟨(⟨ho,v,rfl,hv⟩| ⟨ho,rfl⟩),hb2⟩)
     . go_ret2
       exact AU ⟨HY.out,AU ⟨ho,v,rfl,hv⟩,hb2⟩
     . go_ret2
       exact AU ⟨HY.out,AW ⟨ho,rfl⟩,hb2⟩
 . have uF:s.toList.isEmpty=AE:=by rw[B0,p_nil.2 (by omega)];rfl
   have HN:Hid (s.data.toList.head? ≠Z 47):=wM (by rw[Sx (by omega)];intro e;cases e);go_enter Tryz.func8,Tryz.ntmps8;go_wp2;go_ret2;exact AW ⟨HN.out,rfl,rfl⟩
section
variable {w:Ai}{B bn bp:Nat}{x:Nd}
theorem pZ(hb:Fv x.tg):JI x.M 0 x.tg.length=x.tg:=by
 have:=aN (M:=fun _=>H) (l:=x.tg) ⟨fun i l e=>(by cases e),fun i l e=>(by cases e)⟩ hb (a:=0) (n:=0) (At 0);rw[show max 0 (0+x.tg.length)=x.tg.length by omega] at this;unfold Nd.M;rw[this];simp[splice,JI]
end
theorem Bh{ops:Array BE}{rest:List BE}{o:BE}{a:Act}{w:Ai}{Q:Exit->Act->Ai->Prop}(Du:o.guard=H)(ty:Cg)(hi:(Ae.info? ty).map (·.size)=Z 3)(x y:Operand)(ho:o.op=.store ty x y)
 (g:Nat) (hx:a.eval x=Al (Z ⟨g,0,H⟩)) (p q r p' q' r':Ao) (hy:a.eval y=BN #[p,q,r]) (hp:p.oneCell'=AE) (hq:q.oneCell'=AE) (hr:r.oneCell'=AE) (T:Cg) (hg:w.heap[g]? =Z (Am #[p',q',r'] T (0,0)))
 (h:∀ w',Wrote w w' g->w'.heap[g]? =Z (Am #[p,q,r] T (0,0))->Cf Ae ops Q rest (a.put o.dst undef) w'):Cf Ae ops Q (o :: rest) a w:=
 C0 Du ty x y ho g #[p,q,r] hx hy T _ hg hi rfl (by simp[hp,hq,hr]) (h _ (Wrote.setRow _ _ _) (CC _ _ _ _ _ _ hg))
theorem Bj{fn:Func}{p u:Tmp}{ty:Cg}{fs}(h:fn.results=#[.cell p ty,.tmp u])(hu:Ae.underlying ty=Z (.struct fs))(hi:(Ae.info? ty).map (·.size)=Z 3)
 (tmps:Array Ao) (w:Ai) (g:Nat) (T:Cg) (a b c x:Ao) (hp:tmps.getD p undef=Al (Z ⟨g,0,H⟩)) (hg:w.heap[g]? =Z (Am #[a,b,c] T (0,0))) (hx:tmps.getD u undef=x):
 (results fn tmps).run Ae w=.ok (AH #[BN #[a,b,c],x]) w:=by
 rw[results_cell_tmp h,hp,hx];simp only[asAddr,Sem.run_pure,Result.andThen_ok];rw[run_loadVar_row w g T ty _ (0,0) _ hg hu rfl (by rw[hi];rfl)];rfl
def rU(p:Yg):Ao:=AH #[BN #[z Ad p.1.1,.string p.1.2.1,z Ad p.1.2.2],z Ad p.2]
theorem ib{l m:List GW}(hl:FrmL l)(hm:FrmL m)(h:Fm l=Fm m):l=m:=by
 have e:=Bt List.length h;rw[E6 hl,E6 hm] at e;apply Bg (by omega);intro i h1 h2;have a:=Vy hl h1;have b:=Vy hm h2;rw[h,b] at a;rw[<- Tf (hl _ (Be h1)),<- Tf (hm _ (Be h2)),a]
structure DirN (sz:Nat) (M:Nat->Option (List Int)) (l:List GW):Prop where
 f:DirF sz M l
 hi:∀ i,sz<=256*i->M i=H
section
variable {sz:Nat}{M:Nat->Option (List Int)}{l:List GW}
theorem DirN.nil{M:Nat->Option (List Int)}(h:OkB M)(h2:∀ i,M i=H):DirN 0 M []:=⟨DirF.nil h,fun i _=>h2 i⟩
end
section
variable {w:Ai}{P:Nat->Prop}{d p:Ao}{X:XSt}{S:List Int}{N:List (List Int)}{O:List (Int × Int)}{kk:Nat}{F:Nat->List Int}{bf n sz:Nat}{M:Nat->Option (List Int)}{Q:List Int}{l:List GW}
theorem QH(h:Frd w P d p X S N O kk F bf)(ft:Fat X.cur N F n sz M)(hk:Cy N n=2)(h1:1<=n)(BG:n<48)(hd:DirF sz M l):
 Av Ae 51 #[Al (Z ⟨bf,0,H⟩),z Ad n] w fun e w'=>∃ v,e=Aj (AH #[v,z Ad 0])/\ER w' w.heap.size 75 v l/\Ap w.heap.size w w':=by
 refine(dZ h ft hk h1 BG).mono ?_;rintro e w' (⟨D,q1,q2,v,he,q3,q4⟩| ⟨q1,_,_⟩)
 . obtain rfl:=ib q1 hd.frm (q2.trans hd.by_)
   exact⟨v,he,q3,q4⟩
 . exact absurd ⟨l,hd.frm,hd.by_.symm⟩ q1
end
theorem ER.cell2{w:Ai}{B:Nat}{v:Ao}{l:List GW}(h:ER w B 75 v l){j:Nat}(hj:j<l.length):∃ b cap,v=Ak (Z ⟨b,0,H⟩) l.length cap/\∀ W,Ap w.heap.size w W->W.cell? ⟨b,j*2,H⟩=Z (z Ad (l.getD j default).1)/\W.cell? ⟨b,j*2+1,H⟩=Z (.string (l.getD j default).2):=by
 rcases h.2 with⟨_,e⟩| ⟨g,cap,cur,hv,hg,hh,Ii,Jq,Jr,ht⟩
 . omega
 . refine⟨g,cap,hv,fun W hW=>?_⟩
   have hr:RwE w g (cap*2) l:=⟨cur,hh,Jr,ht,by omega⟩;exact(hr.below hW).cells hj
def Rm(l:List GW)(s:ByteArray):Int:=if Dr l s<l.length then (l.getD (Dr l s) default).1 else 0
def Rp(l:List GW)(s:ByteArray):Int:=if Dr l s<l.length then 0 else 4
section
variable {w:Ai}{P:Nat->Prop}{d p:Ao}{X:XSt}{S:List Int}{N:List (List Int)}{O:List (Int × Int)}{kk:Nat}{F:Nat->List Int}{bf n sz:Nat}{M:Nat->Option (List Int)}{Q:List Int}{l:List GW}
theorem DirF.len(h:DirF sz M l)(hs:sz<=35328):l.length<=2208:=by have:=h.zs;omega
theorem YQ(h:Frd w P d p X S N O kk F bf)(ft:Fat X.cur N F n sz M)(hk:Cy N n=2)(h1:1<=n)(BG:n<48)(hd:DirF sz M l)(s:ByteArray):
 Av Ae 147 #[Al (Z ⟨bf,0,H⟩),z Ad n,.string s] w fun e w'=>e=Aj (AH #[z Ad (Rm l s),z Ad (Rp l s)])/\Ap w.heap.size w w':=by
 have hlen:=hd.len ft.sb;have KR:=wM (QH h ft hk h1 BG hd);have KX:Hid (∀ (V:Ai) (v:Ao),ESl V v l->Av Ae 53 #[v,.string s] V fun e w'=>e=Aj (z Ad (Gk l s))/\Ap V.heap.size V w'):=wM fun V v hv=>QM hv (by omega) s
 obtain⟨m,hm⟩:=nm l.length;have HM:=wM hm;by_cases hx:Dr l s<l.length
 . obtain⟨k,SI⟩:=nm (Dr l s)
   have e1:Rm l s=(l.getD k default).1:=(by unfold Rm;rw[Au hx,SI]);have e2:Rp l s=0:=(by unfold Rp;rw[Au hx]);have e3:Gk l s=(k:Int):=(by unfold Gk;rw[Au hx,SI]);rw[e3] at KX;rw[e1,e2];have hkm:k<m:=(by omega);have hkz:(k:Int)<(m:Int):=(by omega);have tC:m<=2208:=(by omega);have HCE:Hid (∀ (V:Ai) (v:Ao),ER V w.heap.size 75 v l->∃ b cap,v=Ak (Z ⟨b,0,H⟩) m cap/\∀ W,Ap V.heap.size V W->W.cell? ⟨b,k*2,H⟩=Z (z Ad (l.getD k default).1)):=wM fun V v hv=>by
    obtain⟨b,cap,e,hc⟩:=hv.cell2 (j:=k) (by omega);exact⟨b,cap,by rw[hm];exact e,fun W hW=>(hc W hW).1⟩
   generalize (l.getD k default).1=y at HCE |-
   clear h ft hk h1 BG hd hlen hm hx SI e1 e2 e3;go_enter Tryz.func147,Tryz.ntmps147
   go_wp2_with (first
    |(go_at_call 51;(with_reducible refine KR.out.mono ?_);rintro e w2 ⟨v,rfl,hv,hb2⟩;obtain⟨b,cap,rfl,hc⟩:=HCE.out _ _ hv;have KX2:=wM (KX.out _ _ hv.sl);have HC:=wM hc;have HB2:=wM hb2;clear hv hc hb2)
    |(go_at_call 53;(with_reducible refine KX2.out.mono ?_);rintro e w3 ⟨rfl,hb3⟩;have c0:=HC.out _ hb3))
   go_ret2;exact⟨rfl,HB2.out.trans (hb3.mono HB2.out.size)⟩
 . have e1:Rm l s=0:=by unfold Rm;rw[Ax hx]
   have e2:Rp l s=4:=(by unfold Rp;rw[Ax hx]);have e3:Gk l s= -1:=(by unfold Gk;rw[Ax hx]);rw[e3] at KX;rw[e1,e2];clear h ft hk h1 BG hd hlen hm hx e1 e2 e3;go_enter Tryz.func147,Tryz.ntmps147
   go_wp2_with (first
    |(go_at_call 51;(with_reducible refine KR.out.mono ?_);rintro e w2 ⟨v,rfl,hv,hb2⟩;obtain⟨ao,cap,rfl⟩:=hv.sl.shape;have KX2:=wM (KX.out _ _ hv.sl);have HB2:=wM hb2;clear hv hb2)
    |(go_at_call 53;(with_reducible refine KX2.out.mono ?_);rintro e w3 ⟨rfl,hb3⟩))
   go_ret2;exact⟨rfl,HB2.out.trans (hb3.mono HB2.out.size)⟩
end
def T0:EV:=fun i=>if i=1 then Z ⟨2,[],[]⟩ else H
theorem wA:OkT T0:=by
 have key:∀ i x,T0 i=Z x->i=1/\x=⟨2,[],[]⟩:=fun i x h=>by
  unfold T0 at h;split at h
  . next e=>exact⟨e,(A0 h).symm⟩
  . cases h
 refine⟨⟨_,rfl,rfl⟩,fun i x h=>?_,fun i x h=>?_,fun i x h e he=>?_,fun i x h=>?_,fun i x h h2=>?_,fun i x h=>?_⟩
 . have:=(key i x h).1;omega
 . rw[(key i x h).2];exact AW (AU rfl)
 . rw[(key i x h).2] at he;cases he
 . rw[(key i x h).2];exact AT _
 . rw[(key i x h).2]
 . rw[(key i x h).2];exact⟨AT _,EY,by decide⟩
theorem V4(G:List (List Int)):Fat G newN td 1 0 fun _=>H:=by
 have hz:∀ i,i<139->B6 (newN.getD 1 []) (td 1) i=0:=fun i hi=>mY (c:=0) (m:=1) (by decide) (by decide) hi
 refine⟨AW (AU (PV (c:=0) (m:=1) (by decide) (by decide))),rfl,by omega,fun i hi=>by rw[Au (hz i (by omega))],fun _ _=>rfl,?_,⟨fun i l e=>(by cases e),fun i l e=>(by cases e)⟩⟩;constructor
 . intro e;exact absurd (hz 138 (by decide)) e
 . rintro⟨b,a1,a2,a3⟩;exact absurd (hz b (by omega)) a3
structure NdF (G N:List (List Int)) (F:Nat->List Int) (i:Nat) (x:Nd):Prop where
 ft:∃ M,Fat G N F i x.sz M/\(x.kd=2->DirN x.sz M x.L)/\(x.kd≠2->M=x.M)
 kd:Cy N i=x.kd
structure FsT (G N:List (List Int)) (O:List (Int × Int)) (kk:Nat) (F:Nat->List Int) (T:EV) (c:Nat):Prop where
 nd:∀ i x,T i=Z x->NdF G N F i x
 fr:∀ i,1<=i->i<48->T i=H->Cy N i=0
 cn:Dy O (64*kk)<=c
def RestT(w0:Ai)(d p:Ao)(kk bf:Nat)(T:EV)(c:Nat)(P:Nat->Prop)(w:Ai):Prop:=
 ∃ X N O F,Fsd w0 w P d p X (Eb kk) N O kk F bf/\FsT X.is N O kk F T c
section
variable {w0 w:Ai}{d p:Ao}{kk bf:Nat}{T0 T:EV}{c0 c n m q:Nat}{P:Nat->Prop}
theorem RestT.low(h:RestT w0 d p kk bf T c P w){w':Ai}(hb:Ap w.heap.size w w'):RestT w0 d p kk bf T c P w':=by
 obtain⟨X,N,O,F,a,r⟩:=h;exact⟨X,N,O,F,a.low hb,r⟩
theorem RestT.rd(h:RestT w0 d p kk bf T c P w):∃ X N O F,Frd w P d p X (Eb kk) N O kk F bf/\FsT X.cur N O kk F T c:=by
 obtain⟨X,N,O,F,a,r⟩:=h;exact⟨_,N,O,F,a.rd,by unfold XSt.cur;rw[a.wi];exact r⟩
end
section
variable {w0 w:Ai}{d p:Ao}{kk bf:Nat}{Ta T:EV}{c0 c n m q:Nat}{P:Nat->Prop}
theorem Tsd.restT{X:XSt}{b:Nat}(h:Tsd w0 w P d (Al (Z ⟨b,0,H⟩)) X (Eb kk) newN (Gv kk) kk bf)(h1:1<=kk)(h4:kk<5):RestT w0 d (Al (Z ⟨b,0,H⟩)) kk bf T0 6 P w:=by
 have hc:=o8 kk h4 h1;have h0:(⟨2,[],[]⟩:Nd).sz=0:=rfl;refine⟨X,newN,Gv kk,td,⟨h.inv,h.wi,h.fu,⟨h.has,h.ok,h.tab,jG h1 _⟩,iA h1 (by omega),h.fs,h.nb,h.bN,h.pN,h.be⟩,⟨fun i x e=>?_,fun i i1 i2 e=>?_,by rw[hc];exact At _⟩⟩
 . unfold T0 at e
   split at e
   . next hi=>
     subst hi;cases e
     exact⟨⟨fun _=>H,V4 _,fun _=>DirN.nil (V4 []).ok fun _=>rfl,fun e=>absurd rfl e⟩,PV (c:=0) (m:=1) (by decide) (by decide)⟩
   . cases e
 . have:i≠1:=fun hi=>by subst hi;cases e
   exact(PV (c:=0) (m:=i) (by decide) (by omega)).trans (by rw[Ax this,Ax (by omega)])
theorem am{kk:Nat}(h1:1<=kk)(h4:kk<5)(w0:Ai){w:Ai}(hb:Ap w0.heap.size w0 w):Av Ae 15 #[z Ad (64*(kk:Int)),z Ad (64*(kk:Int))] w fun e w'=>∃ b,e=Aj (Al (Z ⟨b,0,H⟩))/\Ap w0.heap.size w0 w'/\
 Av Ae 14 #[Al (Z ⟨b,0,H⟩)] w' fun e w''=>∃ bf P d,e=Aj (Al (Z ⟨bf,0,H⟩))/\RestT w0 d (Al (Z ⟨b,0,H⟩)) kk bf T0 6 P w'':=by
 refine(oy h1 (by omega) w0 hb).mono ?_;rintro e w' ⟨b,he,hb2,hc⟩;refine⟨b,he,hb2,hc.mono ?_⟩;rintro e2 w'' ⟨bf,P,d,X,pz,ht,_⟩;exact⟨bf,P,d,pz,ht.restT h1 h4⟩
end
end
section
open Go.RowKit
theorem oB{s:ByteArray}(h:0<s.size):((s.extract 0 1).toList==[47])=decide (s.data.toList.head? =Z 47):=by
 have e1:(s.extract 0 1).toList=[s[0]]:=by
  rw[B0,Lib.extract_data,CP];have:=O8 h;rw[CP] at this;rw[this];rfl
 rw[e1,Kv h];by_cases e:s[0]=47
 . rw[e];rfl
 . rw[AB (fun h=>e (A0 h))]
   simp[e]
theorem rI(W:Ai)(s:ByteArray)(j:Nat)(h:j<=s.size):(Instr.slice 9 (.string s) H (Z (z Ad (j:Int))) H).run Ae W=.ok (.string (s.extract 0 j)) W:=by
 have hz:(j:Int)<=(s.size:Int):=by omega
 simp[Instr.slice,Instr.sliceBounds,Instr.sliceBound,asIntOf,B9 Tryz.underlying9];intro hc;exfalso;omega
theorem iF(W:Ai)(s:ByteArray)(i:Nat)(h:i<=s.size):(Instr.slice 9 (.string s) (Z (z Ad (i:Int))) H H).run Ae W=.ok (.string (s.extract i s.size)) W:=by
 have hz:(i:Int)<=(s.size:Int):=by omega
 simp[Instr.slice,Instr.sliceBounds,Instr.sliceBound,asIntOf,B9 Tryz.underlying9];intro hc;exfalso;omega
theorem ku(s:ByteArray)(w:Ai):Av Ae 39 #[.string s,.string ⟨#[47]⟩] w fun e w'=>e=Aj (AP (decide (s.data.toList.head? =Z 47)))/\w=w':=by
 obtain⟨R,hR⟩:=nm (decide (s.data.toList.head? =Z 47));rw[<- hR];by_cases h0:s.size=0
 . have hf:R=Ay:=by rw[hR,Sx h0];rfl
   have g:¬ (1:Int)<=(s.size:Int):=(by omega);clear hR h0;subst hf;go_enter Tryz.func39,Tryz.ntmps39;go_wp2;go_ret;exact⟨rfl,rfl⟩
 . have g:(1:Int)<=(s.size:Int):=by omega
   have HB:=wM (show((s.extract 0 1).toList==[47])=R by rw[hR];exact oB (by omega));clear hR h0;go_enter Tryz.func39,Tryz.ntmps39;go_wp2;go_ret;exact⟨Df HB.out,rfl⟩
theorem aK(s:ByteArray)(w:Ai):Av Ae 16 #[.string s,.string ⟨#[47]⟩] w fun e w'=>e=Aj (AP (decide (s.data.toList.head? =Z 47)))/\w=w':=by
 have K:=ku s;obtain⟨R,hR⟩:=nm (decide (s.data.toList.head? =Z 47));rw[<- hR] at K |-
 clear hR;go_enter Tryz.func16,Tryz.ntmps16;go_wp2_with (go_at_call 39;(with_reducible refine(K _).mono ?_);rintro e w' ⟨rfl,rfl⟩)
 go_ret;exact⟨rfl,rfl⟩
theorem jv(s:ByteArray)(w:Ai):Av Ae 169 #[.string s,.string ⟨#[47]⟩] w fun e w'=>e=Aj (z Ad (Lib.indexByte s.data.toList 47))/\w=w':=by
 have K:=fun W=>Wz s 47 W
 obtain⟨R,hR⟩:=nm (Lib.indexByte s.data.toList 47);have K2:∀ W,Av Ae 82 #[.string s,z .u8 47] W fun e w'=>e=Aj (z Ad R)/\W=w':=fun W=>by rw[hR];exact K W
 rw[<- hR];have HZ:Hid (([47]==s.toList)=AE->R=0):=wM fun h=>by
  have h2:s.data.toList=[47]:=by rw[<- B0];exact((Da).1 h).symm
  rw[hR,h2];rfl
 clear hR K;cases hq:([47]==s.toList)
 . go_enter Tryz.func169,Tryz.ntmps169
   go_wp2_with (go_at_call 82;(refine(K2 _).mono ?_);rintro e w' ⟨rfl,rfl⟩)
   go_ret;exact⟨rfl,rfl⟩
 . have e:R=0:=HZ.out hq
   subst e;go_enter Tryz.func169,Tryz.ntmps169;go_wp2;go_ret;exact⟨rfl,rfl⟩
theorem mV(s:ByteArray)(w:Ai):Av Ae 127 #[.string s,.string ⟨#[47]⟩] w fun e w'=>e=Aj (z Ad (Lib.indexByte s.data.toList 47))/\w=w':=by
 have K:=jv s;obtain⟨R,hR⟩:=nm (Lib.indexByte s.data.toList 47);rw[<- hR] at K |-
 clear hR;go_enter Tryz.func127,Tryz.ntmps127;go_wp2_with (go_at_call 169;(with_reducible refine(K _).mono ?_);rintro e w' ⟨rfl,rfl⟩)
 go_ret;exact⟨rfl,rfl⟩
theorem Zq(s:ByteArray)(hs:s.size<=1000000)(w:Ai):Av Ae 83 #[.string s] w fun e w'=>e=Aj (.string s)/\Ap w.heap.size w w':=by
 by_cases h0:s.size=0
 . have e:s=⟨#[]⟩:=ByteArray.ext (Array.eq_empty_of_size_eq_zero h0)
   subst e;go_enter Tryz.func83,Tryz.ntmps83;go_wp2;go_ret;exact⟨rfl,AC _ _⟩
 . have vy:(Ae.info? 5).map (·.size)=Z 1:=by kernel_rfl
   have hco:Ae.cellsOf 5=1:=(by kernel_rfl);obtain⟨M,hM⟩:∃ M:Array Ao,M=AK s.size (z .u8 0):=⟨_,rfl⟩;have hMs:M.size=s.size:=(by rw[hM,Array.size_replicate]);have vm:=Lib.run_copy_row_string (P:=Ae) (w.alloc (Am M 5)) 77 9 3 5 w.heap.size 0 s.size s.size s M 5 Tryz.underlying77 vy (Ar w _) (At _) (by omega);obtain⟨Y,hY⟩:=nm ((M.toList.take 0 ++ Lib.byteCells s.data.toList ++ M.toList.drop (0+s.size)).toArray);rw[<- hY] at vm;have hYl:Y.toList=Lib.byteCells s.data.toList:=by
    rw[hY,List.toList_toArray,List.take_zero,List.nil_append,GR (by rw[Array.length_toList];omega),BW]
   have hYs:Y.size=s.size:=(by rw[<- Array.length_toList,hYl,Lib.byteCells_length,<- Lib.size_eq]);obtain⟨W2,Ko⟩:=nm ((w.alloc (Am M 5)).setRow w.heap.size Y);have hgY:W2.heap[w.heap.size]? =Z (Am Y 5 (0,0)):=(by rw[Ko];exact CC _ _ M _ 5 (0,0) (Ar w _));have hb2:Ap w.heap.size w W2:=by
    rw[Ko];exact(As w _).trans ⟨rfl,rfl,rfl,by simp,fun k hk=>setRow_other _ _ _ _ (by omega)⟩
   rw[<- Ko] at vm;have hne:s.data.toList≠[]:=fun e=>h0 (by rw[Lib.size_eq,e];rfl)
   have hUS:=Lib.run_unsafeString_row (P:=Ae) W2 224 3 9 5 Tryz.underlying224 hco w.heap.size Y.size (by unfold Ai.shape?;rw[hgY]) s.data.toList hne (by rw[<- Lib.size_eq];omega) (by rw[<- Lib.size_eq];omega)
    (fun j x hx=>Lib.cells_of_row hgY Y.size j _ (by rw[AR (by rw[Array.length_toList];exact At _),hYl];simp[Lib.byteCells,hx]))
   rw[<- Lib.size_eq] at hUS;have HB:=wM (Lib.below_freeze hb2 (p:=⟨w.heap.size,0,H⟩) (At _) s.size);have hz:(s.size:Int)<=1000000:=(by omega);have hnz:(0:Int)<(s.size:Int):=(by omega);have hn0:0<s.size:=(by omega);have Js:((s.size:Int)==0)=Ay:=(by rw[Ce];omega);have HM:=wM hM;clear hY hYl hYs Ko hgY hb2 hne hMs hM h0 hs;go_enter Tryz.func83,Tryz.ntmps83;go_wp2_with (refine CJ _ rfl _ _ rfl s.size s.size rfl rfl rfl (by omega) ?_;rw[<- HM.out])
   go_ret;exact⟨rfl,HB.out⟩
theorem cw(s:ByteArray)(hs:s.size<=1000000)(w:Ai):Av Ae 42 #[.string s] w fun e w'=>e=Aj (.string s)/\Ap w.heap.size w w':=by
 have K:=Zq s hs;go_enter Tryz.func42,Tryz.ntmps42;go_wp2_with (go_at_call 83;(with_reducible refine(K _).mono ?_);rintro e w' ⟨rfl,hb⟩)
 go_ret;exact⟨rfl,hb⟩
section
variable {P:Program}{Q:Exit->Act->Ai->Prop}{l n:Nat}
theorem cr{ops:Array BE}(hd:∀ (i:Nat) (o:BE),ops[i]? =Z o->Oc o=AE)(hlo:¬ LetsOut Q){i:Nat}{K K':Act->Ai->Prop}(hK:∀ a w,K a w->K' a w){a:Act}{w:Ai}(h:wpOp P ops Q i K a w):wpOpIn (Fence.wide.inRound l) n P ops Q i K' a w:=by
 unfold wpOpIn;unfold wpOp at h;cases ho:ops[i]? with
 |none=>rw[ho] at h;exact hK _ _ h
 |some o=>
  rw[ho] at h
  dsimp only at h |-
  by_cases hw:Region.wanted o (yielded ops a.tmps)=AE
  . rw[Au hw] at h |-
    rcases h with h|h
    . exact Z2 (hd i o ho) hK h
    . exact absurd h.2 hlo
  . rw[Ax hw] at h |-
    exact⟨fun _ _=>trivial,hK _ _ h⟩
theorem Wb{md:Region.Mode}{ops:Array BE}(hd:∀ (i:Nat) (o:BE),ops[i]? =Z o->Oc o=AE)(hlo:¬ LetsOut Q):∀ (fuel:Nat) (listed:Array Bool) (a:Act) (w:Ai),wpAny P md ops Q fuel listed a w->wpAnyIn (Fence.wide.inRound l) n P md ops Q fuel listed a w
 |0,_,_,_,h=>h
 |fuel+1,_,_,_,h=>⟨h.1,fun i hi=>cr hd hlo (fun a w k=>Wb hd hlo fuel _ a w k) (h.2 i hi)⟩
end
section
variable {P:Program}{Q:Exit->Act->Ai->Prop}{l n:Nat}
theorem mQ{id:Nat}{L:List BE}{a:Act}{w:Ai}(hm:P.follows .mixedOrders=AE)(hd:L.all Oc=AE)(hlo:¬ LetsOut Q)
 (h:wpAny P .any L.toArray Q L.toArray.size (AK L.toArray.size Ay) a w.drew):(Code.region id L.toArray AE).wpIn (Fence.wide.inRound l) n P Q a w:=
 wpIn_region_any hm (Wb (fun i o ho=>by
  rw[List.getElem?_toArray] at ho;exact Dh.1 hd o (List.mem_of_getElem? ho)) hlo _ _ _ _ h)
end
def wC{α:Type}(Kp:Ai->Ai->Prop)(I X:List α->Ai->Prop)(xs:List α)(W:Ai):Exit->Act->Ai->Prop
 |.normal,_,V=>KeepsOthers W V/\Kp W V/\I xs V
 |.ret,_,V=>KeepsOthers W V/\X xs V
 |_,_,_=>False
def ix{α:Type}(n:Nat)(P:Program)(gf:Nat)(lb:Array Ao)(encs:α->Array Ao)(Kp C:Ai->Ai->Prop)(L:List α)(w:Ai):Prop:=
 ∀ (l:Nat) (J X:List α->Ai->Prop) (W:Ai),Ap w.heap.size w W->AbidesFrom W.heap.size J->AbidesFrom W.heap.size X->(∀ xs V V',C V V'->J xs V->J xs V')->
   (∀ pre x V,J pre V->pre ++ [x] <+: L->YieldAt Fence.wide (n-1) P l (encs x) V fun e V'=>(e=Aj (AP AE)/\J (pre ++ [x]) V'/\Kp V V')\/(e=Aj (AP Ay)/\X (pre ++ [x]) V'))->
   J [] W->CallsIn Fence.wide n P gf (#[.func (.yield l) #[] #[]] ++ lb) W fun e V=>(∃ v,e=Aj v)/\(J L V\/∃ pre,X pre V)
structure BkC (rec:LoopState->Option Code->Loop) (q:Nat) (st:LoopState) (pe:Option Code) (V:Ai):Prop where
 lp:V.heap[q+1]? =Z (.loop (rec st pe))
 df:V.heap[q]? =Z (.deferred (Z []))
section
variable {rec:LoopState->Option Code->Loop}{q:Nat}{st st':LoopState}{pe pe':Option Code}{V V':Ai}
theorem BkC.lt(h:BkC rec q st pe V):q+1<V.heap.size:=(Ah.1 h.lp).1
theorem BkC.turn(h:BkC rec q st pe V):BkC rec q st' pe' (V.putObj (q+1) (.loop (rec st' pe'))):=
 ⟨Ai.putObj_heap_same h.lt,(World.putObj_heap_other (by omega)).trans h.df⟩
theorem BkC.keep(h:BkC rec q st pe V)(hk:KeepsOthers V V'):BkC rec q st pe V':=⟨hk.same _ _ h.lp rfl,hk.same _ _ h.df rfl⟩
theorem BkC.abide(h:BkC rec q st pe V){row:Option Nat}(hg:V.grownBy V' row)(hr:∀ r,row=Z r->∃ o:Obj,V.heap[r]? =Z o/\o.isWalk=AE):BkC rec q st pe V':=
 ⟨(grownBy_keeps hg hr h.lp rfl).trans h.lp,(grownBy_keeps hg hr h.df rfl).trans h.df⟩
end
theorem m8{α:Type}{P:Program}{n:Nat}(h1:1<=n){g:Operand}{ps:Array Tmp}{assign body:Code}{Q:Exit->Act->Ai->Prop}{a:Act}{w:Ai}{gf:Nat}{lb:Array Ao}
 (hg:a.eval g=.func (.func gf) #[] lb) (eg:∀ args w,(callFunc gf args).run P w=.ok (.enter gf args) w) {encs:α->Array Ao} {Kp C:Ai->Ai->Prop} {L:List α}
 (hit:ix (n-1) P gf lb encs Kp C L w) (hC:∀ V V' k,C V V'->w.heap.size<=k->V'.heap[k]? =V.heap[k]?)
 (hKt:∀ {A B D:Ai},Kp A B->Kp B D->Kp A D) (hKb:∀ (W:Ai) (l:Nat) (o:Obj),w.heap.size<=l->Kp W (W.putObj l o)) (Kq:∀ x,(encs x).size=ps.size)
 (I X:List α->Ai->Prop) (hI:OwnFrom w.heap.size I) (hX:OwnFrom w.heap.size X) (hIC:∀ xs V V',C V V'->I xs V->I xs V') (h0:I [] w) (a₁:α->Act)
 (pA:∀ (l:Nat) (x:α) (W:Ai) (K:Act->Ai->Prop),K (a₁ x) W->
   assign.wpIn (Fence.wide.inRound l) (n-1-1) P (Exit.then K (fun _ _ _=>False)) { tmps:=(ps.zip (encs x)).foldl (fun t (p,v)=>t.setIfInBounds p v) a.tmps,defers:=[] } W)
 (vz:∀ (l:Nat) (pre:List α) (x:α) (W:Ai),I pre W->pre ++ [x] <+: L->body.wpIn (Fence.wide.inRound l) (n-1-1) P (wC Kp I X (pre ++ [x]) W) (a₁ x) W)
 (vC:∀ (D:Nat) (W:Ai),w.heap.size<=D->I L W->W.heap[D]? =Z (.deferred (Z []))->Q .normal { a with defers:={ target:=.collected D,args:=#[] } :: a.defers } W)
 (vE:∀ (D:Nat) (pre:List α) (W:Ai),w.heap.size<=D->X pre W->W.heap[D]? =Z (.deferred (Z []))->Code.ret.wpIn Fence.wide n P Q { a with defers:={ target:=.collected D,args:=#[] } :: a.defers } W):
 (Code.rangeFunc g ps assign body).wpIn Fence.wide n P Q a w:=by
 refine wpIn_rangeFunc fun fn hfn=>?_
 obtain⟨q,hq⟩:=nm w.heap.size;obtain⟨rec,Rt⟩:∃ rec:LoopState->Option Code->Loop,rec=fun st pe=>{ state:=st,pending:=pe,fn:=fn,tmps:=a.tmps,params:=ps,assign:=assign,body:=body,defers:=q }:=⟨_,rfl⟩
 have pC:(Instr.enterLoop fn a.tmps ps assign body Fence.wide.round).run P w=.ok (q+1,[{ target:=.collected q,args:=#[] }]) ((w.alloc (.deferred (Z []))).alloc (.loop (rec .ready H))):=by
  rw[Rt,hq];exact run_enterLoop_outer _ _ _ _ _
 have mg:BkC rec q .ready H ((w.alloc (.deferred (Z []))).alloc (.loop (rec .ready H))):=by
  rw[hq];refine⟨?_,(Ap.heap_alloc _ _ _ (by simp)).trans (Ai.alloc_heap_new w _)⟩;have:=Ai.alloc_heap_new (w.alloc (.deferred (Z []))) (.loop (rec .ready H))
  rwa [World.size_alloc] at this
 have hst:I [] ((w.alloc (.deferred (Z []))).alloc (.loop (rec .ready H))):=hI.alloc _ (hI.alloc _ h0);have hlo:Ap w.heap.size w ((w.alloc (.deferred (Z []))).alloc (.loop (rec .ready H))):=((AC _ w).alloc (At _) _).alloc (by simp) _;obtain⟨W1,hW1⟩:=nm ((w.alloc (.deferred (Z []))).alloc (.loop (rec .ready H)));rw[<- hW1] at pC mg hst hlo;have hw1:w.heap.size<=W1.heap.size:=hlo.size;refine⟨q+1,[{ target:=.collected q,args:=#[] }],W1,{ target:=.fn (.func gf) lb,args:=#[.func (.yield (q+1)) #[] #[]] },W1,gf,#[.func (.yield (q+1)) #[] #[]] ++ lb,W1,pC,?_,fun _ _=>trivial,?_,fun _=>h1,?_⟩
 . simp only[resolve,hg]
   simp[go_sem]
 . simp[invoke,go_sem,eg]
 have turnI:∀ {st pe xs V},BkC rec q st pe V->I xs V->∀ st' pe',I xs (V.putObj (q+1) (.loop (rec st' pe'))):=fun hb hi st' pe'=>hI.putObj _ hi (by omega) hb.lp rfl
 have turnX:∀ {st pe xs V},BkC rec q st pe V->X xs V->∀ st' pe',X xs (V.putObj (q+1) (.loop (rec st' pe'))):=fun hb hi st' pe'=>hX.putObj _ hi (by omega) hb.lp rfl
 have rows:∀ {A:Ai} {row:Option Nat},(∀ r,row=Z r->W1.heap.size<=r/\∃ o:Obj,A.heap[r]? =Z o/\o.isWalk=AE)->(∀ r,row=Z r->w.heap.size<=r/\∃ o:Obj,A.heap[r]? =Z o/\o.isCells=Ay):=
  fun hr r e=>by
   obtain⟨b,o,ho,hw⟩:=hr r e;exact⟨AI hw1 b,o,ho,Obj.not_cells_of_walk hw⟩
 have turns:∀ (V:Ai) (j:Option Code),BkC rec q .busy H V->(Instr.endRound (q+1) j).run P V=.ok (AP j.isNone) (V.putObj (q+1) (.loop (rec (if j.isNone then .ready else .done) j))):=fun V j hb=>by
  have:=run_endRound (P:=P) j hb.lp;rw[Rt] at this |-
  exact this
 refine(hit (q+1) (fun pre V=>I pre V/\BkC rec q .ready H V) (fun pre V=>X pre V/\BkC rec q .done (Z .ret) V) W1 hlo
  (fun s A B row hs hgr hr=>⟨hI s A B row hs.1 hgr (rows hr),hs.2.abide hgr fun r e=>(hr r e).2⟩)
  (fun s A B row hs hgr hr=>⟨hX s A B row hs.1 hgr (rows hr),hs.2.abide hgr fun r e=>(hr r e).2⟩)
  (fun s A B hc hs=>⟨hIC s A B hc hs.1,(hC A B _ hc (by omega)).trans hs.2.lp,(hC A B _ hc (by omega)).trans hs.2.df⟩)
  (fun pre x V hs hp=>?_) ⟨hst,mg⟩).mono ?_
 . obtain⟨hi,hb⟩:=hs
   have hy:=run_yield (P:=P) (args:=encs x) hb.lp (by rw[Rt];exact Kq x);have vF:=run_beginRound (P:=P) hb.lp (by rw[Rt]);have hb2:BkC rec q .busy H (V.putObj (q+1) (.loop (rec .busy H))):=hb.turn;have hi2:=turnI hb hi .busy H;have JG:=hKb V (q+1) (.loop (rec .busy H)) (by omega);obtain⟨V2,Uv⟩:=nm (V.putObj (q+1) (.loop (rec .busy H)));rw[<- Uv] at hb2 hi2 JG;have vG:(Instr.beginRound (q+1)).run P V=.ok () V2:=(by rw[Uv];rw[Rt] at vF |-;exact vF);rw[Rt] at hy;refine⟨fn,_,assign,body,hy,roundIn_of_wpIn hfn (pA _ x V _ ⟨V2,vG,wpIn_mono (vz _ pre x V2 hi2 hp) ?_⟩)⟩;intro e a3 V3 hp3;cases e with
   |normal=>
    obtain⟨k3,kp3,i3⟩:=hp3;have hb3:=hb2.keep k3;exact⟨_,_,turns V3 H hb3,AU ⟨rfl,⟨turnI hb3 i3 .ready H,hb3.turn⟩,hKt (hKt JG kp3) (hKb V3 (q+1) _ (by omega))⟩⟩
   |ret=>
    obtain⟨k3,x3⟩:=hp3;have hb3:=hb2.keep k3;exact⟨_,_,turns V3 (Z .ret) hb3,AW ⟨rfl,turnX hb3 x3 .done (Z .ret),hb3.turn⟩⟩
   |exit id=>exact hp3.elim
   |goto t=>exact hp3.elim
   |panic ch=>exact hp3.elim
   |outgrown=>exact hp3.elim
 . rintro e V ⟨⟨v,rfl⟩,(⟨hi,hb⟩| ⟨pre,hx,hb⟩)⟩
   . have:=run_endLoop (P:=P) hb.lp (by rw[Rt];simp)
     exact⟨H,_,by rw[Rt] at this;exact this,vC q _ (by omega) (hI.putObj _ hi (by omega) hb.lp rfl) ((World.putObj_heap_other (by omega)).trans hb.df)⟩
   . have:=run_endLoop (P:=P) hb.lp (by rw[Rt];simp)
     exact⟨Z .ret,_,by rw[Rt] at this;exact this,vE q pre _ (by omega) (hX.putObj _ hx (by omega) hb.lp rfl) ((World.putObj_heap_other (by omega)).trans hb.df)⟩
attribute [local go_sem] BE.semAt_some
def Hq:List UInt8->List UInt8->List (List UInt8)
 |[],c=>[c]
 |b :: r,c=>if b=47 then c :: Hq r [] else Hq r (c ++ [b])
theorem Qu:∀ l c,Us l c=(Hq l c).filter fun x=>decide (x≠[])
 |[],c=>by unfold Us Hq;by_cases h:c=[] <;> simp[h]
 |b :: r,c=>by
  unfold Us Hq;by_cases hb:b=47
  . rw[Au hb,Au hb,Qu r []]
    by_cases h:c=[] <;> simp[h]
  . rw[Ax hb,Ax hb,Qu r]
theorem kQ:∀ (l c:List UInt8),(47:UInt8) ∉ l->Hq l c=[c ++ l]
 |[],c,_=>by unfold Hq;rw[BW]
 |b :: r,c,h=>by
  have hb:b≠47:=fun e=>h (by rw[e];exact Cj)
  unfold Hq;rw[Ax hb,kQ r _ fun hm=>h (By _ hm),A7];rfl
theorem ii(q:List UInt8):∀ (p c:List UInt8),(47:UInt8) ∉ p->Hq (p ++ 47 :: q) c=(c ++ p) :: Hq q []
 |[],c,_=>by
  rw[List.nil_append,Hq,Au rfl,BW]
 |b :: r,c,h=>by
  have hb:b≠47:=fun e=>h (by rw[e];exact Cj)
  rw[List.cons_append,Hq,Ax hb,ii q r _ fun hm=>h (By _ hm),A7];rfl
theorem TM:∀ l:List UInt8,(Lib.indexByte l 47= -1/\(47:UInt8) ∉ l)\/∃ i:Nat,Lib.indexByte l 47=(i:Int)/\i<l.length/\(47:UInt8) ∉ l.take i/\l=l.take i ++ 47 :: l.drop (i+1)
 |[]=>AU ⟨rfl,Bi⟩
 |b :: r=>by
  by_cases hb:b=47
  . subst hb
    exact AW ⟨0,by unfold Lib.indexByte;rfl,by simp,by simp,by simp⟩
  . have hbe:(b==47)=Ay:=by rw[Ce];exact hb
    rcases TM r with⟨h1,h2⟩| ⟨i,h1,h2,h3,h4⟩
    . refine AU ⟨?_,fun hm=>?_⟩
      . unfold Lib.indexByte
        rw[hbe,h1];rfl
      . rcases Ew.1 hm with e|e
        . exact hb e.symm
        . exact h2 e
    . refine AW ⟨i+1,?_,by simp;omega,fun hm=>?_,?_⟩
      . unfold Lib.indexByte
        have:((i:Int)== -1)=Ay:=(by rw[Ce];omega);rw[hbe,h1,this];simp
      . rw[List.take_succ_cons] at hm
        rcases Ew.1 hm with e|e
        . exact hb e.symm
        . exact h3 e
      . rw[List.take_succ_cons,List.cons_append,List.drop_succ_cons,<- h4]
def JC(s:ByteArray):List ByteArray:=(Hq s.data.toList []).map dr
theorem mL{s:ByteArray}(h:Lib.indexByte s.data.toList 47= -1):JC s=[s]:=by
 rcases TM s.data.toList with⟨_,h2⟩| ⟨i,h1,_⟩
 . unfold JC
   rw[kQ _ _ h2,List.nil_append];show [dr s.data.toList]=[s]
   rw[PB]
 . omega
theorem mx{s:ByteArray}{i:Nat}(h:Lib.indexByte s.data.toList 47=(i:Int)):i<s.size/\JC s=s.extract 0 i :: JC (s.extract (i+1) s.size):=by
 rcases TM s.data.toList with⟨h1,_⟩| ⟨j,h1,h2,h3,h4⟩
 . omega
 . obtain rfl:j=i:=by omega
   rw[GJ] at h2;refine⟨h2,?_⟩;have e1:Hq s.data.toList []=s.data.toList.take j :: Hq (s.data.toList.drop (j+1)) []:=by
    have:=ii (s.data.toList.drop (j+1)) (s.data.toList.take j) [] h3;rw[<- h4,List.nil_append] at this;exact this
   unfold JC;rw[e1,DO];congr 1
   . apply ByteArray.ext
     apply Array.ext';rw[Lib.extract_data,CP,Nat.sub_zero];rfl
   . congr 2
     rw[Lib.extract_data,AR (by rw[Bn,GJ];omega)]
theorem Lg(s:ByteArray):BL s=(JC s).filter fun p=>decide (p.size≠0):=by
 unfold BL JC;rw[Qu,List.filter_map];congr 1;apply List.filter_congr;intro x _;show decide (x≠[])=decide ((dr x).size≠0)
 have:(dr x).size=x.length:=rfl;rw[this];cases x <;> simp
def wK(sB eB vB:Nat)(W W':Ai):Prop:=W'.heap[sB]? =W.heap[sB]? /\W'.heap[eB]? =W.heap[eB]? /\W'.heap[vB]? =W.heap[vB]?
def CS(sB:Nat)(V V':Ai):Prop:=∃ r:ByteArray,V'=V.setCell ⟨sB,0,H⟩ (.string r)
def UY(sB:Nat)(V:Ai):Nat:=match V.cell? ⟨sB,0,H⟩ with
 |some (.string r)=>r.size
 |_=>0
theorem Vd{n:Nat}(hn:1<=n){sB eB vB:Nat}{s:ByteArray}(hs:s.size<=1000000){w:Ai}(qt:sB≠eB)(hsv:sB≠vB)
 (h1:w.heap[sB]? =Z (Am #[.string s] 9 (0,0))) (h2:w.heap[eB]? =Z (Am #[.string ⟨#[47]⟩] 9 (0,0))) (h3:w.heap[vB]? =Z (Am #[z Ad 0] 3 (0,0))):
 ix n Ae 125 #[Al (Z ⟨eB,0,H⟩),Al (Z ⟨sB,0,H⟩),Al (Z ⟨vB,0,H⟩)] (fun x=>#[.string x]) (wK sB eB vB) (CS sB) (JC s) w:=by
 intro l J Jx W hW hJ hJx hC hY h0;have g1:W.heap[sB]? =Z (Am #[.string s] 9 (0,0)):=(hW.block _ (Ah.1 h1).1).trans h1;have g2:W.heap[eB]? =Z (Am #[.string ⟨#[47]⟩] 9 (0,0)):=(hW.block _ (Ah.1 h2).1).trans h2;have g3:W.heap[vB]? =Z (Am #[z Ad 0] 3 (0,0)):=(hW.block _ (Ah.1 h3).1).trans h3;have HG:=wM (And.intro g1 (And.intro g2 g3));have H0:=wM h0;have HC:=wM hC;have HY:=wM hY;have cE:=BV g2;clear hW h1 h2 h3 hJ hJx hY h0 g1 g2 g3 hC;refine callsIn_of_wp Tryz.func125 rfl trivial ?_ rfl;simp only[Tryz.ntmps125,List.size_toArray,Bm,List.length_nil,Nat.reduceAdd,Nat.reduceSub,Array.replicate_succ,Array.replicate_zero,List.push_toArray,List.append_toArray,List.nil_append,List.cons_append]
 gi_wp2
 gi_loopw [7] (fun s7 wr=>∃ (r:ByteArray) (pre:List ByteArray),Hid (r.size<=s.size/\pre ++ JC r=JC s/\J pre wr/\wr.heap[sB]? =Z (Am #[.string r] 9 (0,0))/\wr.heap[eB]? =Z (Am #[.string ⟨#[47]⟩] 9 (0,0))/\wr.heap[vB]? =Z (Am #[z Ad 0] 3 (0,0)))) (fun _ wr=>UY sB wr)
 case atStart=>exact⟨s,[],wM ⟨At _,rfl,H0.out,HG.out⟩⟩
 case round=>
  obtain⟨r,pre,HI⟩:=hrel;have c1:=BV HI.out.2.2.2.1;have c2:=BV HI.out.2.2.2.2.1;have c3:=BV HI.out.2.2.2.2.2;have KI:=fun W=>mV r W
  have mm:(r.size:Int)<=1000000:=by have:=HI.out.1;omega
  clear cE;by_cases pD:Lib.indexByte r.data.toList 47= -1
  . rw[pD] at KI
    have e1:=HI.out.2.1;rw[mL pD] at e1;obtain⟨fn,tmps,assign,body,hy,hR⟩:=HY.out pre r wr HI.out.2.2.1 (by rw[e1];exact List.prefix_rfl);have HE:=wM e1;clear pD e1
    gi_wp2_with (refine⟨trivial,?_⟩;gi_at_call 127;refine(Di.2 (KI _)).mono ?_;rintro e w2 ⟨rfl,rfl⟩)
    refine hR.mono ?_;rintro e W3 (⟨rfl,sL,hk3⟩| ⟨rfl,lW⟩)
    . gi_wp2
      go_end0
      exact⟨⟨_,rfl⟩,AU (by rw[<- HE.out];exact sL)⟩
    . gi_wp2
      go_end0
      exact⟨⟨_,rfl⟩,AW ⟨_,lW⟩⟩
  . obtain⟨i,hi⟩:∃ i:Nat,Lib.indexByte r.data.toList 47=(i:Int):=by
     have:=Lib.indexByte_ge r.data.toList 47;exact⟨(Lib.indexByte r.data.toList 47).toNat,by omega⟩
    obtain⟨hlt,e1⟩:=mx hi;rw[hi] at KI;have e2:=HI.out.2.1;rw[e1] at e2;have e3:(pre ++ [r.extract 0 i]) ++ JC (r.extract (i+1) r.size)=JC s:=(by rw[<- e2,A7];rfl);obtain⟨fn,tmps,assign,body,hy,hR⟩:=HY.out pre (r.extract 0 i) wr HI.out.2.2.1 ⟨_,e3⟩;have HE:=wM e3;have HLT:=wM hlt;have Ed:¬ (i:Int)<0:=(by omega);have uC:=fun W=>rI W r i (by omega)
    have hlo:=fun W=>iF W r (i+1) (by omega)
    clear pD e1 e2 e3 hi;have hiz:(i:Int)+1<=(r.size:Int):=by omega
    gi_wp2_with (refine⟨trivial,?_⟩;gi_at_call 127;refine(Di.2 (KI _)).mono ?_;rintro e w2 ⟨rfl,rfl⟩)
    refine hR.mono ?_;rintro e W3 (⟨rfl,sL,hk3⟩| ⟨rfl,lW⟩)
    . have k1:=hk3.1.trans HI.out.2.2.2.1
      have k2:=hk3.2.1.trans HI.out.2.2.2.2.1;have k3:=hk3.2.2.trans HI.out.2.2.2.2.2;have d1:=BV k1;have d2:=BV k2;have f1:=CV k1;have HK:=wM (And.intro k1 (And.intro k2 k3));have HJ3:=wM sL;obtain⟨r2,hr2⟩:=nm (r.extract (i+1) r.size);have hlo:∀ W,(Instr.slice 9 (.string r) (Z (z Ad ((i:Int)+1))) H H).run Ae W=.ok (.string r2) W:=fun W=>by rw[hr2];exact iF W r (i+1) (by have:=HLT.out;omega)
      have HR2:Hid (r2.size<r.size):=wM (by rw[hr2,ByteArray.size_extract];have:=HLT.out;omega);rw[<- hr2] at HE;clear hk3 k1 k2 k3 sL hr2
      gi_wp2
      have s1:=DN (v':=.string r2) HK.out.1;go_roundw
      case rel=>exact⟨r2,pre ++ [r.extract 0 i],wM ⟨by have:=HR2.out;have:=HI.out.1;omega,HE.out,HC.out _ _ _ ⟨r2,rfl⟩ HJ3.out,s1,(AN _ ⟨sB,0,H⟩ eB _ (fun e=>qt e.symm)).trans HK.out.2.1,(AN _ ⟨sB,0,H⟩ vB _ (fun e=>hsv e.symm)).trans HK.out.2.2⟩⟩
      case measure=>
       have m1:UY sB (W3.setCell ⟨sB,0,H⟩ (.string r2))=r2.size:=(by unfold UY;rw[BV s1]);have m2:UY sB wr=r.size:=(by unfold UY;rw[c1]);rw[m1,m2];exact HR2.out
    . gi_wp2
      refine AS (results_none rfl _ _ _) rfl ?_;exact⟨⟨_,rfl⟩,AW ⟨_,lW⟩⟩
end
section
open Go.RowKit BM
attribute [local go_sem] BE.semAt_some
theorem SY:∀ (l c p:List UInt8),p∈Hq l c->∀ b∈p,b∈c\/b∈l
 |[],c,p,h,b,hb=>by
  unfold Hq at h;rw[BA.1 h] at hb;exact AU hb
 |x :: r,c,p,h,b,hb=>by
  unfold Hq at h;split at h
  . rcases Ew.1 h with e|h
    . rw[e] at hb;exact AU hb
    . rcases SY r [] p h b hb with h|h
      . cases h
      . exact AW (By _ h)
  . rcases SY r _ p h b hb with h|h
    . rcases BI.1 h with h|h
      . exact AU h
      . rw[BA.1 h];exact AW Cj
    . exact AW (By _ h)
theorem Te:∀ (l c:List UInt8) (b:UInt8),b∈c\/(b∈l/\b≠47)->∃ p∈Hq l c,b∈p
 |[],c,b,h=>by
  unfold Hq;rcases h with h| ⟨h,_⟩
  . exact⟨c,BA.2 rfl,h⟩
  . cases h
 |x :: r,c,b,h=>by
  unfold Hq;split
  . next hx=>
    rcases h with h| ⟨h,h2⟩
    . exact⟨c,Cj,h⟩
    . rcases Ew.1 h with e|h
      . exact absurd (e.trans hx) h2
      . obtain⟨p,a,b⟩:=Te r [] b (AW ⟨h,h2⟩)
        exact⟨p,By _ a,b⟩
  . refine Te r _ b ?_
    rcases h with h| ⟨h,h2⟩
    . exact AU (List.mem_append_left _ h)
    . rcases Ew.1 h with e|h
      . exact AU (Cs _ (BA.2 e))
      . exact AW ⟨h,h2⟩
def Ve(p:ByteArray):Prop:=p.size<=13/\∀ b∈p.data.toList,b≠0
theorem US{s p:ByteArray}(h:p∈JC s)(hg:¬ Ve p):¬ OkP s:=fun ho=>hg ⟨by
 by_cases h0:p.size=0
 . omega
 . exact ho.ln p (by rw[Lg];exact List.mem_filter.2 ⟨h,by simpa using h0⟩),fun b hb=>by
 obtain⟨l,hl,rfl⟩:=BZ.1 h;rcases SY _ _ l hl b (by simpa [dr] using hb) with h|h
 . cases h
 . exact ho.nz b h⟩
theorem lx{s:ByteArray}(h:∀ p∈JC s,Ve p)(hs:s.size<=200):OkP s ↔ (BL s).length<=20:=
 ⟨fun h=>h.ct,fun hc=>⟨hs,fun b hb=>by
   by_cases e:b=47
   . rw[e];decide
   . obtain⟨p,a,c⟩:=Te s.data.toList [] b (AW ⟨hb,e⟩)
     exact(h (dr p) (BZ.2 ⟨p,a,rfl⟩)).2 b (by simpa [dr] using c),fun p hp=>by
   rw[Lg] at hp;exact(h p (List.mem_filter.1 hp).1).1,hc⟩⟩
def dz(pre:List ByteArray):List ByteArray:=pre.filter fun p=>decide (p.size≠0)
theorem rq{pre:List ByteArray}{x:ByteArray}(h:x.size=0):dz (pre ++ [x])=dz pre:=by
 unfold dz;rw[List.filter_append,List.filter_cons_of_neg (by rw[A4];exact fun hn=>hn h),List.filter_nil,BW]
theorem oK{pre:List ByteArray}{x:ByteArray}(h:x.size≠0):dz (pre ++ [x])=dz pre ++ [x]:=by
 unfold dz;rw[List.filter_append,List.filter_cons_of_pos (by rw[A4];exact h),List.filter_nil]
theorem TR.more{w:Ai}{B B':Nat}{v:Ao}{O:List ByteArray}(h:TR w B v O)(hB:B'<=B):TR w B' v O:=by
 refine⟨h.1,?_⟩;rcases h.2 with h| ⟨g,cap,cur,hv,hg,r⟩
 . exact AU h
 . exact AW ⟨g,cap,cur,hv,AI hB hg,r⟩
theorem TR.same{w w':Ai}{B:Nat}{v:Ao}{O:List ByteArray}(h:TR w B v O)(hb:∀ k,B<=k->(∃ cs,w.heap[k]? =Z (Am cs 9 (0,0)))->w'.heap[k]? =w.heap[k]?):TR w' B v O:=by
 refine⟨h.1,?_⟩;rcases h.2 with h| ⟨g,cap,cur,hv,hg,hh,r⟩
 . exact AU h
 . exact AW ⟨g,cap,cur,hv,hg,(hb g hg ⟨_,hh⟩).trans hh,r⟩
structure SpI (w0:Ai) (q ws:Nat) (pre:List ByteArray) (W:Ai):Prop where
 row:∃ v,W.heap[q+1+1]? =Z (Am #[v] 23 (0,0))/\TR W ws v (dz pre)
 r1:W.heap[q]? =Z (Am #[Ak H 0 0] 23 (0,0))
 r2:W.heap[q+1]? =Z (Am #[z Ad 0] 24 (0,0))
 be:Ap w0.heap.size w0 W
 sz:ws<=W.heap.size
 ok:∀ p∈pre,Ve p
structure SpX (w0:Ai) (s:ByteArray) (q:Nat) (pre:List ByteArray) (W:Ai):Prop where
 no:¬ OkP s
 r1:W.heap[q]? =Z (Am #[Ak H 0 0] 23 (0,0))
 r2:W.heap[q+1]? =Z (Am #[z Ad 10] 24 (0,0))
 be:Ap w0.heap.size w0 W
section
variable {w0:Ai}{s:ByteArray}{q ws:Nat}
theorem nl(h0:w0.heap.size<=ws)(h1:q+1+1<ws):OwnFrom ws (SpI w0 q ws):=by
 rintro pre W W' row ⟨⟨v,a,b⟩,c,d,e,f,g⟩ hg hr;refine⟨⟨v,Ep hg a (fun r e=>by have:=(hr r e).1;omega),b.same fun k hk ⟨cs,hc⟩=>hg.block k (Ah.1 hc).1 (fun e=>?_)⟩,Ep hg c (fun r e=>by have:=(hr r e).1;omega),Ep hg d (fun r e=>by have:=(hr r e).1;omega),e.grown hg e.size (fun k e=>AI h0 (hr k e).1),AI f hg.size,g⟩;obtain⟨_,o,ho,hn⟩:=hr k e.symm;rw[hc] at ho;cases ho
 cases hn
theorem n9(h0:w0.heap.size<=ws)(h1:q+1+1<ws):OwnFrom ws (SpX w0 s q):=by
 rintro pre W W' row ⟨a,c,d,e⟩ hg hr;exact⟨a,Ep hg c (fun r e=>by have:=(hr r e).1;omega),Ep hg d (fun r e=>by have:=(hr r e).1;omega),e.grown hg e.size (fun k e=>AI h0 (hr k e).1)⟩
theorem SpI.cell{pre:List ByteArray}{W W':Ai}(h:SpI w0 q ws pre W)(hq:q=w0.heap.size)(hw:q+3<ws)(hc:CS (q+1+1+1) W W'):SpI w0 q ws pre W':=by
 obtain⟨r,rfl⟩:=hc;obtain⟨⟨v,a,b⟩,c,d,e,f,g⟩:=h;have ho:∀ k,k≠q+1+1+1->(W.setCell ⟨q+1+1+1,0,H⟩ (.string r)).heap[k]? =W.heap[k]? :=fun k hk=>AN W ⟨q+1+1+1,0,H⟩ k _ hk
 exact⟨⟨v,(ho _ (by omega)).trans a,b.same fun k hk _=>ho k (by omega)⟩,(ho _ (by omega)).trans c,(ho _ (by omega)).trans d,e.setCell (p:=⟨q+1+1+1,0,H⟩) (by show _<=q+1+1+1;omega) _,by rw[Ai.size_setCell];exact f,g⟩
theorem SpI.leave{pre pre':List ByteArray}{W:Ai}(h:SpI w0 q ws pre W)(hn:¬ OkP s)(hq:q=w0.heap.size):
 KeepsOthers W ((W.setCell ⟨q,0,H⟩ (Ak H 0 0)).setCell ⟨q+1,0,H⟩ (z Ad 10))/\SpX w0 s q pre' ((W.setCell ⟨q,0,H⟩ (Ak H 0 0)).setCell ⟨q+1,0,H⟩ (z Ad 10)):=by
 have h1:(W.setCell ⟨q,0,H⟩ (Ak H 0 0)).heap[q]? =Z (Am #[Ak H 0 0] 23 (0,0)):=DN h.r1;have h2:(W.setCell ⟨q,0,H⟩ (Ak H 0 0)).heap[q+1]? =Z (Am #[z Ad 0] 24 (0,0)):=(AN W ⟨q,0,H⟩ (q+1) _ (by show q+1≠q;omega)).trans h.r2;exact⟨(KeepsOthers.setCell _ _ _).trans (KeepsOthers.setCell _ _ _),hn,(AN _ ⟨q+1,0,H⟩ q _ (by show q≠q+1;omega)).trans h1,DN h2,(h.be.setCell (p:=⟨q,0,H⟩) (by show w0.heap.size<=q;omega) _).setCell (p:=⟨q+1,0,H⟩) (by show w0.heap.size<=q+1;omega) _⟩
end
theorem Jl{fn:Func}{p u:Tmp}(h:fn.results=#[.cell p 23,.cell u 24])(tmps:Array Ao)(w:Ai)(g k:Nat)(v x:Ao)(T U:Cg)(hp:tmps.getD p undef=Al (Z ⟨g,0,H⟩))(hu:tmps.getD u undef=Al (Z ⟨k,0,H⟩))
 (hg:w.heap[g]? =Z (Am #[v] T (0,0))) (hk:w.heap[k]? =Z (Am #[x] U (0,0))):(results fn tmps).run Ae w=.ok (AH #[v,x]) w:=by
 have c1:w.cell? ⟨g,0,H⟩=Z v:=by rw[Aq _ _ _ _ _ _ hg];rfl
 have c2:w.cell? ⟨k,0,H⟩=Z x:=by rw[Aq _ _ _ _ _ _ hk];rfl
 have h0:(results fn tmps).run Ae w=
  ((asAddr (tmps.getD p undef)).run Ae w).andThen fun a w₁=>((loadVar 23 a).run Ae w₁).andThen fun v w₂=>((asAddr (tmps.getD u undef)).run Ae w₂).andThen fun a w₃=>((loadVar 24 a).run Ae w₃).andThen fun y w₄=>.ok (AH #[v,y]) w₄:=by
  simp only[results,h];simp[Result.andThen]
 rw[h0,hp,hu];simp only[asAddr,Sem.run_pure,Result.andThen_ok]
 go_simp
theorem Yp(s:ByteArray)(w:Ai):Av Ae 81 #[.string s,.string ⟨#[47]⟩,z Ad 0] w fun e w'=>e=Aj (.func (.func 125) #[] #[Al (Z ⟨w.heap.size+1,0,H⟩),Al (Z ⟨w.heap.size,0,H⟩),Al (Z ⟨w.heap.size+1+1,0,H⟩)])/\w'=((w.alloc (Am #[.string s] 9)).alloc (Am #[.string ⟨#[47]⟩] 9)).alloc (Am #[z Ad 0] 3):=by
 go_enter Tryz.func81,Tryz.ntmps81;go_wp2;go_ret;exact⟨rfl,rfl⟩
theorem TJ(s:ByteArray)(w:Ai):Av Ae 40 #[.string s,.string ⟨#[47]⟩] w fun e w'=>e=Aj (.func (.func 125) #[] #[Al (Z ⟨w.heap.size+1,0,H⟩),Al (Z ⟨w.heap.size,0,H⟩),Al (Z ⟨w.heap.size+1+1,0,H⟩)])/\w'=((w.alloc (Am #[.string s] 9)).alloc (Am #[.string ⟨#[47]⟩] 9)).alloc (Am #[z Ad 0] 3):=by
 have K:=Yp s;go_enter Tryz.func40,Tryz.ntmps40;go_wp2_with (go_at_call 81;(with_reducible refine(K _).mono ?_);rintro e w' ⟨rfl,hw⟩)
 go_ret;exact⟨rfl,by first|exact hw|rfl⟩
end
end Go.Proofs.YtfpdajplfmakhaaGreatDoor
