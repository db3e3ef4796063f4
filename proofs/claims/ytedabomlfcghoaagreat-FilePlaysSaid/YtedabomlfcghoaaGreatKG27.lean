/- What the law rests on: part 27. -/
import Derived.Test.YtedabomlfcghoaaGreatKG26
set_option linter.unusedVariables false
namespace Go.Proofs.YtedabomlfcghoaaGreat
set_option maxRecDepth 100000
open Go.RowKit BM
theorem read_both{w0:World}{d p:Value}{kk bf g n bn bp sz m bm bpm sm:Nat}{M Mm:Nat->Option (List Int)}{K:Nat->Option Obj}(hnm:NM n m)(io vo:Int)(hi:io<=9223372036854775807)(hv:vo<=9223372036854775807):
 ∃ (D:List Int) (E:Int),∀ (P:Nat->Prop) (w:World),Sd w0 bf (StartF w0 d p kk bf n sz M m sm Mm) K P g n bn bp sz M m bm bpm sm Mm w->
   (Calls Tryz.prog 15 #[.pointer (some ⟨bf,0,none⟩),.int .i64 n,.int .i64 io,.int .i64 vo] w fun e w'=>∃ v,e=.returned (.tuple #[v,.int .i64 E])/\BSl w' v D/\Below w.heap.size w w')/\
   (Calls Tryz.prog 16 #[.pointer (some ⟨bn,0,none⟩),.int .i64 io,.int .i64 vo] w fun e w'=>∃ v,e=.returned (.tuple #[v,.int .i64 E])/\BSl w' v D/\Below w.heap.size w w'):=by
 have n1:1<=n:=by have:=hnm.1;omega
 have n48:n<48:=by have:=hnm.2.1;omega
 by_cases ha:io<0
 . refine⟨[],1,fun P w h=>?_⟩
   obtain⟨X,N,O,F,hr,ft⟩:=h.ph.rd;exact⟨(flRead_neg1 hr n1 n48 ft.k0 ha vo).mono fun e w' ⟨he,hb⟩=>⟨_,he,Zhd _,hb⟩,(nRead15_bad _ (.inl ha)).mono fun e w' ⟨he,hb⟩=>⟨_,he,Zhd _,hb⟩⟩
 . by_cases hm:vo<0
   . refine⟨[],1,fun P w h=>?_⟩
     obtain⟨X,N,O,F,hr,ft⟩:=h.ph.rd;exact⟨(flRead_neg2 hr n1 n48 ft.k0 ha hm).mono fun e w' ⟨he,hb⟩=>⟨_,he,Zhd _,hb⟩,(nRead15_bad _ (.inr hm)).mono fun e w' ⟨he,hb⟩=>⟨_,he,Zhd _,hb⟩⟩
   . obtain⟨a,rfl⟩:∃ a:Nat,io=(a:Int):=⟨io.toNat,by omega⟩
     obtain⟨b,rfl⟩:∃ b:Nat,vo=(b:Int):=⟨vo.toNat,by omega⟩;refine⟨rdB M a (min b (sz-a)),0,fun P w h=>?_⟩;obtain⟨X,N,O,F,hr,ft⟩:=h.ph.rd;exact⟨(flRead_of hr ft n1 n48 hi hv).mono fun e w' ⟨v,he,ho,hb⟩=>⟨v,he,ho.bsl,hb⟩,(nRead15_of h.nd.a hi hv).mono fun e w' ⟨v,he,ho,hb⟩=>⟨v,he,ho.bsl,hb⟩⟩
def Zfc(k no io vo:Int)(u:Value):Obj:=.cells #[.int .i64 k,.int .i64 no,.int .i64 io,.int .i64 vo,u] 32 (0,0)
theorem Zan{w:World}{b:Nat}{k no io vo:Int}{u:Value}(h:w.heap[b]? =some (Zfc k no io vo u)):w.cell? ⟨b,0,none⟩=some (.int .i64 k)/\w.cell? ⟨b,1,none⟩=some (.int .i64 no)/\w.cell? ⟨b,2,none⟩=some (.int .i64 io)/\w.cell? ⟨b,3,none⟩=some (.int .i64 vo)/\w.cell? ⟨b,4,none⟩=some u:=by
 unfold Zfc at h;refine⟨?_,?_,?_,?_,?_⟩ <;> (rw [cell_of_row _ _ _ _ _ _ h];rfl)
def K1(xb:Nat)(o:Obj):Nat->Option Obj:=fun y=>if y=xb then some o else none
section
variable {w0 w:World}{d p:Value}{kk bf g gc n bn bp sz m bm bpm sm:Nat}{M Mm:Nat->Option (List Int)}{P:Nat->Prop}{k no io vo lim:Int}{u:Value}{l:List Int}{r y:Nat}
theorem Sd.boxed(h:Sd w0 bf (RestF w0 d p kk bf n sz M m sm Mm) (fun _=>none) P g n bn bp sz M m bm bpm sm Mm w)(o:Obj):
 (w.alloc o).cell? ⟨bf,0,none⟩=some p/\Calls Tryz.prog 18 #[p] (w.alloc o) fun e w'=>e=.returned (.int .i64 0)/\∃ P',Sd w0 bf (StartF w0 d p kk bf n sz M m sm Mm) (K1 w.heap.size o) P' g n bn bp sz M m bm bpm sm Mm w':=by
 have h1:=h.add (Zjm ..) (Zaa w o) (Nat.le_refl _) (heap_alloc_new w o);exact⟨h1.ph.fs.cell,h1.ph.begin.mono fun e w' ⟨he,P',hs,hc⟩=>⟨he,P',h1.fsy hs hc⟩⟩
theorem Sd.box{Φ:(Nat->Prop)->World->Prop}{xb:Nat}{o:Obj}(h:Sd w0 bf Φ (K1 xb o) P g n bn bp sz M m bm bpm sm Mm w):w.heap[xb]? =some o:=(h.own xb o (if_pos rfl)).1
set_option maxHeartbeats 4000000 in
theorem do15_read(h:Sd w0 bf (RestF w0 d p kk bf n sz M m sm Mm) (fun _=>none) P g n bn bp sz M m bm bpm sm Mm w)(hnm:NM n m)(hi:io<=9223372036854775807)(hv:vo<=9223372036854775807)(hy:IntKind.u64.wrap no=(y:Int))(hr:r=y%2)(hn:n=2+r)(hk1:k≠1)(hk2:k≠2):
 Calls Tryz.prog 11 #[.pointer (some ⟨bf,0,none⟩),.slice (some ⟨g,0,none⟩) 4 gc,.agg #[.int .i64 k,.int .i64 no,.int .i64 io,.int .i64 vo,u],.int .i64 lim] w fun e w'=>e=.returned (.bool true)/\Rst w0 d p kk bf g n m w':=by
 obtain⟨cf,hB⟩:=h.boxed (Zfc k no io vo u);obtain⟨D,E,hRd⟩:=read_both (w0:=w0) (d:=d) (p:=p) (kk:=kk) (bf:=bf) (g:=g) (bn:=bn) (bp:=bp) (sz:=sz) (bm:=bm) (bpm:=bpm) (sm:=sm) (M:=M) (Mm:=Mm) (K:=K1 w.heap.size (Zfc k no io vo u)) hnm io vo hi hv;have HRD:=hid hRd;obtain⟨xb,hxb⟩:∃ xb,xb=w.heap.size:=⟨_,rfl⟩;rw[<- hxb] at hB HRD;have HXB:=hid hxb;obtain⟨w1,hw1⟩:∃ w1,w1=w.alloc (Zfc k no io vo u):=⟨_,rfl⟩;have H1:Hid (w.alloc (.cells #[.int .i64 k,.int .i64 no,.int .i64 io,.int .i64 vo,u] 32)=w1):=hid hw1.symm;rw[<- hw1] at cf hB;have KB:=hid hB;have xq1:(k==1)=false:=by simp;omega
 have xq2:(k==2)=false:=by simp;omega
 have y2:((y:Int)).tmod 2=(r:Int):=by rw[Int.tmod_eq_emod_of_nonneg (by omega)];omega
 have y3:IntKind.u64.wrap (r:Int)=(r:Int):=u64_in _ (by omega) (by omega);have y4:IntKind.i64.wrap (r:Int)=(r:Int):=IntWalk.i64_in _ (by omega);have y5:IntKind.i64.wrap (2+(r:Int))=(n:Int):=by rw[IntWalk.i64_in _ (by omega)];omega
 have n4:(n:Int)<4:=by have:=hnm.2.1;omega
 have n4':n<4:=by have:=hnm.2.1;omega
 have HC:=hid (Zdy (bf:=bf) w0 d p kk n sz M m sm Mm);clear h hi hv hk1 hk2 hB hxb hw1 hRd hn hr hnm;go_enter Tryz.func11,Tryz.ntmps11;go_upto_region 1 with(fail)
 rw[H1.out,<- HXB.out]
 go_wp2_with (first
  |(go_at_call 18;refine KB.out.mono ?_;rintro e w2 ⟨rfl,P2,hs2⟩;obtain⟨b0,b1,b2,b3,b4⟩:=Zan hs2.box;have cn:=hs2.nd.cn;have KC2:=hid (Zgd hs2.nd.a))
  |(go_at_call 25;(with_reducible refine KC2.out.mono ?_);rintro e w3 ⟨cb,cp,rfl,_,_,_,hb3⟩;replace hs2:=hs2.low HC.out hb3;obtain⟨b0,b1,b2,b3,b4⟩:=Zan hs2.box;have KR3:=hid (HRD.out _ _ hs2).1)
  |(go_at_call 15;(with_reducible refine KR3.out.mono ?_);rintro e w4 ⟨v1,rfl,hv1,hb4⟩;replace hs2:=hs2.low HC.out hb4;obtain⟨b0,b1,b2,b3,b4⟩:=Zan hs2.box;have KR4:=hid (HRD.out _ _ hs2).2)
  |(go_at_call 16;(with_reducible refine KR4.out.mono ?_);rintro e w5 ⟨v2,rfl,hv2,hb5⟩;replace hs2:=hs2.low HC.out hb5;have hv15:=hv1.below hb5;have cv1:=Zfl hv15;have cv2:=Zfl hv2;have cf5:=hs2.ph.fs.cell;have KE5:=hid hs2.ph.mid.keep)
  |(go_at_call 21;(with_reducible refine KE5.out.mono ?_);rintro e w6 ⟨rfl,P6,hr6,hc6⟩))
 go_ret;exact⟨rfl,P6,_,_,_,_,_,_,_,_,(hs2.fsy hr6 hc6).forget⟩
end
section
variable {w0 w:World}{d p:Value}{kk bf g gc n bn bp sz m bm bpm sm:Nat}{M Mm:Nat->Option (List Int)}{P:Nat->Prop}{k no io vo lim:Int}{u:Value}{l:List Int}{r y:Nat}
set_option maxHeartbeats 4000000 in
theorem do15_rsE(h:Sd w0 bf (RestF w0 d p kk bf n sz M m sm Mm) (fun _=>none) P g n bn bp sz M m bm bpm sm Mm w)(hnm:NM n m)(hy:IntKind.u64.wrap no=(y:Int))(hr:r=y%2)(hn:n=2+r)(hi:io<0\/35328<io)(hk:k=2):
 Calls Tryz.prog 11 #[.pointer (some ⟨bf,0,none⟩),.slice (some ⟨g,0,none⟩) 4 gc,.agg #[.int .i64 k,.int .i64 no,.int .i64 io,.int .i64 vo,u],.int .i64 lim] w fun e w'=>e=.returned (.bool true)/\Rst w0 d p kk bf g n m w':=by
 obtain⟨cf,hB⟩:=h.boxed (Zfc k no io vo u)
 obtain⟨E,hE,hRz⟩:∃ E:Int,E≠0/\∀ (P:Nat->Prop) (V:World),Sd w0 bf (StartF w0 d p kk bf n sz M m sm Mm) (K1 w.heap.size (Zfc k no io vo u)) P g n bn bp sz M m bm bpm sm Mm V->
  (Calls Tryz.prog 20 #[.pointer (some ⟨bf,0,none⟩),.int .i64 n,.int .i64 io] V fun e w'=>e=.returned (.int .i64 E)/\Below V.heap.size V w')/\
  (Calls Tryz.prog 27 #[.pointer (some ⟨bn,0,none⟩),.int .i64 io] V fun e w'=>e=.returned (.int .i64 E)/\Below V.heap.size V w'):=by
  have n1:1<=n:=by have:=hnm.1;omega
  have n48:n<48:=by have:=hnm.2.1;omega
  rcases hi with hi|hi
  . refine⟨1,by decide,fun P V hV=>?_⟩
    obtain⟨X,N,O,F,hr,ft⟩:=hV.ph.rd;exact⟨flResize_neg hr n1 n48 ft.k0 hi,nResize15_neg _ hi⟩
  . refine⟨14,by decide,fun P V hV=>?_⟩
    obtain⟨X,N,O,F,hr,ft⟩:=hV.ph.rd;exact⟨flResize_big hr n1 n48 ft.k0 hi,nResize15_big _ hi⟩
 have HRD:=hid hRz;obtain⟨xb,hxb⟩:∃ xb,xb=w.heap.size:=⟨_,rfl⟩;rw[<- hxb] at hB;have HXB:=hid hxb;obtain⟨w1,hw1⟩:∃ w1,w1=w.alloc (Zfc k no io vo u):=⟨_,rfl⟩;have H1:Hid (w.alloc (.cells #[.int .i64 k,.int .i64 no,.int .i64 io,.int .i64 vo,u] 32)=w1):=hid hw1.symm;rw[<- hw1] at cf hB;have KB:=hid hB;rw[<- hxb] at HRD;have eE:(E==0)=false:=by simp;omega
 have y2:((y:Int)).tmod 2=(r:Int):=by rw[Int.tmod_eq_emod_of_nonneg (by omega)];omega
 have y3:IntKind.u64.wrap (r:Int)=(r:Int):=u64_in _ (by omega) (by omega);have y4:IntKind.i64.wrap (r:Int)=(r:Int):=IntWalk.i64_in _ (by omega);have y5:IntKind.i64.wrap (2+(r:Int))=(n:Int):=by rw[IntWalk.i64_in _ (by omega)];omega
 have n4:(n:Int)<4:=by have:=hnm.2.1;omega
 have n4':n<4:=by have:=hnm.2.1;omega
 have HC:=hid (Zdy (bf:=bf) w0 d p kk n sz M m sm Mm);have HCM:=hid (fun(sz:Nat) (M:Nat->Option (List Int))=>cl_mid (bf:=bf) w0 d p kk n sz M m sm Mm);have HCA:=hid (cl_ab (bf:=bf) w0 d p kk n sz M m sm Mm);subst hk;clear h hi hB hxb hw1 hRz hn hr hnm hE;go_enter Tryz.func11,Tryz.ntmps11;go_upto_region 1 with(fail)
 rw[H1.out,<- HXB.out]
 go_wp2_with (first
  |(go_at_call 18;refine KB.out.mono ?_;rintro e w2 ⟨rfl,P2,hs2⟩;obtain⟨b0,b1,b2,b3,b4⟩:=Zan hs2.box;have cn:=hs2.nd.cn;have KC2:=hid (Zgd hs2.nd.a))
  |(go_at_call 25;(with_reducible refine KC2.out.mono ?_);rintro e w3 ⟨cb,cp,rfl,_,_,_,hb3⟩;replace hs2:=hs2.low HC.out hb3;obtain⟨b0,b1,b2,b3,b4⟩:=Zan hs2.box;have KR3:=hid (HRD.out _ _ hs2).1)
  |(go_at_call 20;(with_reducible refine KR3.out.mono ?_);rintro e w4 ⟨rfl,hb4⟩;replace hs2:=hs2.low HC.out hb4;obtain⟨b0,b1,b2,b3,b4⟩:=Zan hs2.box;have KR4:=hid (HRD.out _ _ hs2).2)
  |(go_at_call 27;(with_reducible refine KR4.out.mono ?_);rintro e w5 ⟨rfl,hb5⟩;replace hs2:=hs2.low HC.out hb5;have cf5:=hs2.ph.fs.cell;have KE5:=hid hs2.ph.ab.undo)
  |(go_at_call 21;(with_reducible refine KE5.out.mono ?_);rintro e w6 ⟨rfl,P6,hr6,hc6⟩))
 go_ret;exact⟨rfl,P6,_,_,_,_,_,_,_,_,(hs2.fsy hr6 hc6).forget⟩
set_option maxHeartbeats 4000000 in
theorem do15_rs(h:Sd w0 bf (RestF w0 d p kk bf n sz M m sm Mm) (fun _=>none) P g n bn bp sz M m bm bpm sm Mm w)(hnm:NM n m)(hy:IntKind.u64.wrap no=(y:Int))(hr:r=y%2)(hn:n=2+r){v:Nat}(h4:kk<5)(hi:io=(v:Int))(hv:v<=35328)(hk:k=2):
 Calls Tryz.prog 11 #[.pointer (some ⟨bf,0,none⟩),.slice (some ⟨g,0,none⟩) 4 gc,.agg #[.int .i64 k,.int .i64 no,.int .i64 io,.int .i64 vo,u],.int .i64 lim] w fun e w'=>e=.returned (.bool true)/\Rst w0 d p kk bf g n m w':=by
 obtain⟨cf,hB⟩:=h.boxed (Zfc k no io vo u);have HRZ:=hid (fun(P:Nat->Prop) (V:World) (hV:Sd w0 bf (StartF w0 d p kk bf n sz M m sm Mm) (K1 w.heap.size (Zfc k no io vo u)) P g n bn bp sz M m bm bpm sm Mm V)=>hV.ph.resize h4 hnm hv);have HNR:=hid (fun(V:World) (hV:NodeB V bn bp sz M)=>nResize15_of hV hv);obtain⟨xb,hxb⟩:∃ xb,xb=w.heap.size:=⟨_,rfl⟩;rw[<- hxb] at hB;have HXB:=hid hxb;obtain⟨w1,hw1⟩:∃ w1,w1=w.alloc (Zfc k no io vo u):=⟨_,rfl⟩;have H1:Hid (w.alloc (.cells #[.int .i64 k,.int .i64 no,.int .i64 io,.int .i64 vo,u] 32)=w1):=hid hw1.symm;rw[<- hw1] at cf hB;have KB:=hid hB;rw[<- hxb] at HRZ;have y2:((y:Int)).tmod 2=(r:Int):=by rw[Int.tmod_eq_emod_of_nonneg (by omega)];omega
 have y3:IntKind.u64.wrap (r:Int)=(r:Int):=u64_in _ (by omega) (by omega);have y4:IntKind.i64.wrap (r:Int)=(r:Int):=IntWalk.i64_in _ (by omega);have y5:IntKind.i64.wrap (2+(r:Int))=(n:Int):=by rw[IntWalk.i64_in _ (by omega)];omega
 have n4:(n:Int)<4:=by have:=hnm.2.1;omega
 have n4':n<4:=by have:=hnm.2.1;omega
 have HC:=hid (Zdy (bf:=bf) w0 d p kk n sz M m sm Mm);have HCM:=hid (fun(sz:Nat) (M:Nat->Option (List Int))=>cl_mid (bf:=bf) w0 d p kk n sz M m sm Mm);have HCA:=hid (cl_ab (bf:=bf) w0 d p kk n sz M m sm Mm);subst hk hi;clear h hB hxb hw1 hn hr hnm hv h4;go_enter Tryz.func11,Tryz.ntmps11;go_upto_region 1 with(fail)
 rw[H1.out,<- HXB.out]
 go_wp2_with (first
  |(go_at_call 18;refine KB.out.mono ?_;rintro e w2 ⟨rfl,P2,hs2⟩;obtain⟨b0,b1,b2,b3,b4⟩:=Zan hs2.box;have cn:=hs2.nd.cn;have KC2:=hid (Zgd hs2.nd.a))
  |(go_at_call 25;(with_reducible refine KC2.out.mono ?_);rintro e w3 ⟨cb,cp,rfl,_,_,_,hb3⟩;replace hs2:=hs2.low HC.out hb3;obtain⟨b0,b1,b2,b3,b4⟩:=Zan hs2.box;have KR3:=hid (HRZ.out _ _ hs2))
  |(go_at_call 20;(with_reducible refine KR3.out.mono ?_);rintro e w4 ⟨rfl,P4,hm4,hc4⟩;have hs4:=hs2.fsy hm4 hc4;obtain⟨b0,b1,b2,b3,b4⟩:=Zan hs4.box;have KR4:=hid (HNR.out _ hs4.nd.a))
  |(go_at_call 27;(with_reducible refine KR4.out.mono ?_);rintro e w5 ⟨rfl,hn5,hc5⟩;have hs5:=hs4.node (HCM.out _ _) hn5 hc5;have cf5:=hs5.ph.fs.cell;have KE5:=hid hs5.ph.keep)
  |(go_at_call 21;(with_reducible refine KE5.out.mono ?_);rintro e w6 ⟨rfl,P6,hr6,hc6⟩))
 go_ret;exact⟨rfl,P6,_,_,_,_,_,_,_,_,(hs5.fsy hr6 hc6).forget⟩
end
theorem Zfu(M:Nat->Option (List Int)):Zar M<=139:=by
 have h1:=Zkp (f:=keyB M) (g:=fun _=>1) 138 fun i hi e=>by decide
 have h2:∀ k,cntX (fun _=>1) k=k:=fun k=>by
  induction k with
  |zero=>rfl
  |succ k ih=>rw[cntX,ih,if_pos (by decide)]
 rw[h2] at h1;have h3:=farB_le M 138;unfold Zar;omega
section
variable {w0 w:World}{d p:Value}{kk bf g gc n bn bp sz m bm bpm sm:Nat}{M Mm:Nat->Option (List Int)}{P:Nat->Prop}{Φ:(Nat->Prop)->World->Prop}{K:Nat->Option Obj}
theorem Nod2.two(h:Nod2 g n bn bp sz M m bm bpm sm Mm w)(hnm:NM n m):∃ (q2 q3 u2 u3:Nat),w.cell? ⟨g,2,none⟩=some (.pointer (some ⟨q2,0,none⟩))/\w.cell? ⟨g,3,none⟩=some (.pointer (some ⟨q3,0,none⟩))/\
 (∀ k,Calls Tryz.prog 14 #[.pointer (some ⟨q2,0,none⟩)] (w.drewN k) fun e w'=>e=.returned (.int .i64 (u2:Nat))/\w.drewN k=w')/\(∀ k,Calls Tryz.prog 14 #[.pointer (some ⟨q3,0,none⟩)] (w.drewN k) fun e w'=>e=.returned (.int .i64 (u3:Nat))/\w.drewN k=w')/\u2+u3=Zar M+Zar Mm/\u2<=139/\u3<=139:=by
 obtain⟨a1,a2,a3,a4,a5⟩:=hnm;by_cases c:n=2
 . obtain rfl:m=3:=by omega
   subst c;exact⟨bn,bm,Zar M,Zar Mm,h.cn,h.cm,fun k=>Zgc (h.a.keep rfl rfl),fun k=>Zgc (h.b.keep rfl rfl),rfl,Zfu _,Zfu _⟩
 . obtain rfl:n=3:=by omega
   obtain rfl:m=2:=by omega
   exact⟨bm,bn,Zar Mm,Zar M,h.cm,h.cn,fun k=>Zgc (h.b.keep rfl rfl),fun k=>Zgc (h.a.keep rfl rfl),by omega,Zfu _,Zfu _⟩
theorem infoNode15:(Tryz.prog.info? 53).map (·.size)=some 5:=by kernel_rfl
theorem Sd.back(hcl:Cl w0 bf p Φ){sz':Nat}{M':Nat->Option (List Int)}(h:Sd w0 bf Φ K P g n bn bp sz' M' m bm bpm sm Mm w){cb cp:Nat}{ob:Obj}(hK:K cp=some ob)(hn:NodeB w cb cp sz M):
 ∃ (ao:Option Addr) (cap:Nat) (old:Array Value),w.cell? ⟨cb,0,none⟩=some (.int .i64 1)/\w.cell? ⟨cb,1,none⟩=some (.int .i64 0)/\w.cell? ⟨cb,2,none⟩=some (.int .i64 sz)/\w.cell? ⟨cb,3,none⟩=some (.map (some cp))/\w.cell? ⟨cb,4,none⟩=some (.slice ao 0 cap)/\
   w.heap[bn]? =some (.cells old 53 (0,0))/\old.size=5/\Sd w0 bf Φ (fun _=>none) P g n bn cp sz M m bm bpm sm Mm (w.setRow bn #[.int .i64 1,.int .i64 0,.int .i64 sz,.map (some cp),.slice ao 0 cap]):=by
 obtain⟨ao,cap,hr⟩:=hn.row;obtain⟨ao2,cap2,hr2⟩:=h.nd.a.row;obtain⟨k1,k2,k3,k4,k5⟩:=h.own cp ob hK;have hw:=Wrote.setRow w bn #[.int .i64 1,.int .i64 0,.int .i64 sz,.map (some cp),.slice ao 0 cap];have hcn:cp≠bn:=fun e=>k3 (.inl e)
 obtain⟨KK,gg,hm,hrest⟩:=hn.map;have hnew:NodeB (w.setRow bn #[.int .i64 1,.int .i64 0,.int .i64 sz,.map (some cp),.slice ao 0 cap]) bn cp sz M:=
  ⟨⟨ao,cap,setRow_heap w bn _ _ 53 _ hr2⟩,⟨KK,gg,hm.keep (hw.2.2.2.2 cp hcn),hrest⟩,hn.ok,hn.sb⟩
 have hc:Chg (fun j=>j=bn) (fun j=>j=bn) w (w.setRow bn #[.int .i64 1,.int .i64 0,.int .i64 sz,.map (some cp),.slice ao 0 cap]):=Chg.of_wrote1 hw;have ho:=h.out bn (.inl rfl);refine⟨ao,cap,_,?_,?_,?_,?_,?_,hr2,rfl,⟨hcl.far h.ph hc ⟨fun x e=>by rw[e];exact ho.1,fun x hp e=>ho.2.1 (e ▸ hp),fun e=>ho.2.2 e.symm⟩,h.nd.set hnew (fun x hx e1 e2=>hw.2.2.2.2 x e1) (Nat.le_of_eq hw.2.2.2.1.symm) (.inr ⟨fun e=>k3 (.inr (.inr (.inl e))),fun e=>k3 (.inr (.inr (.inr (.inl e)))),fun e=>k3 (.inr (.inr (.inr (.inr e))))⟩),fun x hx=>?_,fun x o e=>by cases e⟩⟩
 . rw[cell_of_row _ _ _ _ _ _ hr];rfl
 . rw[cell_of_row _ _ _ _ _ _ hr];rfl
 . rw[cell_of_row _ _ _ _ _ _ hr];rfl
 . rw[cell_of_row _ _ _ _ _ _ hr];rfl
 . rw[cell_of_row _ _ _ _ _ _ hr];rfl
 . rcases hx with e|e|e|e|e
   . exact h.out x (.inl e)
   . rw[e];exact⟨k4,k2,k5⟩
   . exact h.out x (.inr (.inr (.inl e)))
   . exact h.out x (.inr (.inr (.inr (.inl e))))
   . exact h.out x (.inr (.inr (.inr (.inr e))))
theorem Sd.copied(hcl:Cl w0 bf p Φ)(h:Sd w0 bf Φ K P g n bn bp sz M m bm bpm sm Mm w){V:World}(hb:Below w.heap.size w V){cb cp:Nat}(h1:w.heap.size<=cb)(h2:w.heap.size<=cp)(hn:NodeB V cb cp sz M):
 ∃ ob op,Sd w0 bf Φ (fun y=>if y=cp then some op else if y=cb then some ob else K y) P g n bn bp sz M m bm bpm sm Mm V/\cb≠cp:=by
 obtain⟨l1,l2⟩:=hn.lt;have e1:V.heap[cb]? =some V.heap[cb]:=Array.getElem?_eq_getElem l1;have e2:V.heap[cp]? =some V.heap[cp]:=Array.getElem?_eq_getElem l2;have a:=h.add hcl hb h1 e1;have hlow:=h.low hcl hb;refine⟨V.heap[cb],V.heap[cp],⟨a.ph,a.nd,a.out,fun y o ho=>?_⟩,fun e=>hn.ne e.symm⟩;by_cases c:y=cp
 . subst c
   rw[if_pos rfl] at ho;cases ho
   exact⟨e2,fun hp=>by have:=(hcl.lt h.ph y hp).2;omega,fun hx=>by have:=h.nd.lt hx;omega,Nat.le_trans (hcl.be h.ph).size h2,fun e=>by have:=(Array.getElem?_eq_some_iff.1 (hcl.fs h.ph).1).1;omega⟩
 . rw[if_neg c] at ho
   exact a.own y o ho
end
section
variable {w0 w:World}{d p:Value}{kk bf g gc n bn bp sz m bm bpm sm:Nat}{M Mm:Nat->Option (List Int)}{P:Nat->Prop}{k no io vo lim:Int}{u:Value}{l:List Int}{r y:Nat}
set_option maxHeartbeats 4000000 in
theorem do15_wrE(h:Sd w0 bf (RestF w0 d p kk bf n sz M m sm Mm) (fun _=>none) P g n bn bp sz M m bm bpm sm Mm w)(hnm:NM n m)(hy:IntKind.u64.wrap no=(y:Int))(hr:r=y%2)(hn:n=2+r)(hu:BSl w0 u l)(hl:(l.length:Int)<=100000)(hi:io<0\/35328<io+(min l.length 1024:Nat))(hk:k=1):
 Calls Tryz.prog 11 #[.pointer (some ⟨bf,0,none⟩),.slice (some ⟨g,0,none⟩) 4 gc,.agg #[.int .i64 k,.int .i64 no,.int .i64 io,.int .i64 vo,u],.int .i64 lim] w fun e w'=>e=.returned (.bool true)/\Rst w0 d p kk bf g n m w':=by
 obtain⟨cf,hB⟩:=h.boxed (Zfc k no io vo u);have hbe:=(Zjm (bf:=bf) w0 d p kk n sz M m sm Mm).be h.ph
 obtain⟨E,hE,hRz⟩:∃ E:Int,E≠0/\∀ (P:Nat->Prop) (V:World),Sd w0 bf (StartF w0 d p kk bf n sz M m sm Mm) (K1 w.heap.size (Zfc k no io vo u)) P g n bn bp sz M m bm bpm sm Mm V->
  (Calls Tryz.prog 19 #[.pointer (some ⟨bf,0,none⟩),.int .i64 n,.int .i64 io,u] V fun e w'=>e=.returned (.tuple #[.int .i64 0,.int .i64 E])/\Below V.heap.size V w')/\
  (Calls Tryz.prog 26 #[.pointer (some ⟨bn,0,none⟩),.int .i64 io,u] V fun e w'=>e=.returned (.tuple #[.int .i64 0,.int .i64 E])/\Below V.heap.size V w'):=by
  have n1:1<=n:=by have:=hnm.1;omega
  have n48:n<48:=by have:=hnm.2.1;omega
  by_cases h0:io<0
  . refine⟨1,by decide,fun P V hV=>?_⟩
    obtain⟨X,N,O,F,hr,ft⟩:=hV.ph.rd;exact⟨flWrite_neg hr n1 n48 ft.k0 h0 _,nWrite15_neg _ (hu.below ((Zdy (bf:=bf) w0 d p kk n sz M m sm Mm).be hV.ph)) (by omega) h0⟩
  . refine⟨14,by decide,fun P V hV=>?_⟩
    obtain⟨X,N,O,F,hr,ft⟩:=hV.ph.rd;have hu2:=hu.below ((Zdy (bf:=bf) w0 d p kk n sz M m sm Mm).be hV.ph);obtain⟨ao,cap,rfl,_⟩:=hu.shape;exact⟨flWrite_big hr n1 n48 ft.k0 h0 ao (by omega) rfl (by omega),nWrite15_big _ hu2 (by omega) h0 rfl (by omega)⟩
 have HRD:=hid hRz;obtain⟨xb,hxb⟩:∃ xb,xb=w.heap.size:=⟨_,rfl⟩;rw[<- hxb] at hB;have HXB:=hid hxb;obtain⟨w1,hw1⟩:∃ w1,w1=w.alloc (Zfc k no io vo u):=⟨_,rfl⟩;have H1:Hid (w.alloc (.cells #[.int .i64 k,.int .i64 no,.int .i64 io,.int .i64 vo,u] 32)=w1):=hid hw1.symm;rw[<- hw1] at cf hB;have KB:=hid hB;rw[<- hxb] at HRD;have eE:(E==0)=false:=by simp;omega
 have y2:((y:Int)).tmod 2=(r:Int):=by rw[Int.tmod_eq_emod_of_nonneg (by omega)];omega
 have y3:IntKind.u64.wrap (r:Int)=(r:Int):=u64_in _ (by omega) (by omega);have y4:IntKind.i64.wrap (r:Int)=(r:Int):=IntWalk.i64_in _ (by omega);have y5:IntKind.i64.wrap (2+(r:Int))=(n:Int):=by rw[IntWalk.i64_in _ (by omega)];omega
 have n4:(n:Int)<4:=by have:=hnm.2.1;omega
 have n4':n<4:=by have:=hnm.2.1;omega
 have HC:=hid (Zdy (bf:=bf) w0 d p kk n sz M m sm Mm);have HCM:=hid (fun(sz:Nat) (M:Nat->Option (List Int))=>cl_mid (bf:=bf) w0 d p kk n sz M m sm Mm);have HCA:=hid (cl_ab (bf:=bf) w0 d p kk n sz M m sm Mm);subst hk;clear h hi hB hxb hw1 hRz hn hr hnm hE hu hl hbe;go_enter Tryz.func11,Tryz.ntmps11;go_upto_region 1 with(fail)
 rw[H1.out,<- HXB.out]
 go_upto_region 14 with(first
  |(go_at_call 18;refine KB.out.mono ?_;rintro e w2 ⟨rfl,P2,hs2⟩;obtain⟨b0,b1,b2,b3,b4⟩:=Zan hs2.box;have cn:=hs2.nd.cn;have KC2:=hid (Zgd hs2.nd.a))
  |(go_at_call 25;(with_reducible refine KC2.out.mono ?_);rintro e w3 ⟨cb,cp,rfl,_,_,_,hb3⟩;replace hs2:=hs2.low HC.out hb3;obtain⟨b0,b1,b2,b3,b4⟩:=Zan hs2.box;have KR3:=hid (HRD.out _ _ hs2).1)
  |(go_at_call 19;(with_reducible refine KR3.out.mono ?_);rintro e w4 ⟨rfl,hb4⟩;replace hs2:=hs2.low HC.out hb4;obtain⟨b0,b1,b2,b3,b4⟩:=Zan hs2.box;have KR4:=hid (HRD.out _ _ hs2).2)
  |(go_at_call 26;(with_reducible refine KR4.out.mono ?_);rintro e w5 ⟨rfl,hb5⟩;replace hs2:=hs2.low HC.out hb5))
 have HS2:=hid hs2;clear hs2 hb3 hb4 hb5;go_quiet (fail)
 have hs6:=HS2.out.low HC.out (Zab (Below.refl _ _) nq:Below w5.heap.size w5 (w5.drewN nq));have cf5:=hs6.ph.fs.cell;have KE5:=hid hs6.ph.ab.undo;go_wp2_with (go_at_call 21;(with_reducible refine KE5.out.mono ?_);rintro e w6 ⟨rfl,P6,hr6,hc6⟩)
 go_ret;exact⟨rfl,P6,_,_,_,_,_,_,_,_,(hs6.fsy hr6 hc6).forget⟩
end
section
variable {w0 w:World}{d p:Value}{kk bf g gc n bn bp sz m bm bpm sm:Nat}{M Mm:Nat->Option (List Int)}{P:Nat->Prop}{k no io vo lim:Int}{u:Value}{l:List Int}{r y:Nat}
theorem Sd.cpy{Φ Ψ:(Nat->Prop)->World->Prop}{K:Nat->Option Obj}{P':Nat->Prop}{w':World}{cb cp sc bn' bp' sz':Nat}{ob op:Obj}{Mc M':Nat->Option (List Int)}(h:Sd w0 bf Φ (fun y=>if y=cp then some op else if y=cb then some ob else K y) P g n bn bp sz M m bm bpm sm Mm w)(hne:cb≠cp)(hn:NodeB w cb cp sc Mc)
 (h':Sd w0 bf Ψ (fun y=>if y=cp then some op else if y=cb then some ob else K y) P' g n bn' bp' sz' M' m bm bpm sm Mm w'):NodeB w' cb cp sc Mc:=
 hn.keep ((h'.own cb ob (by simp[hne])).1.trans (h.own cb ob (by simp[hne])).1.symm) ((h'.own cp op (by simp)).1.trans (h.own cp op (by simp)).1.symm)
theorem K3_box{cb cp xb:Nat}{ob op o:Obj}(h1:xb≠cp)(h2:xb≠cb):(fun y=>if y=cp then some op else if y=cb then some ob else K1 xb o y) xb=some o:=by simp[h1,h2,K1]
set_option maxHeartbeats 4000000 in
theorem do15_wr(h:Sd w0 bf (RestF w0 d p kk bf n sz M m sm Mm) (fun _=>none) P g n bn bp sz M m bm bpm sm Mm w)(hnm:NM n m)(hy:IntKind.u64.wrap no=(y:Int))(hr:r=y%2)(hn:n=2+r)(hu:BSl w0 u l)(hl:(l.length:Int)<=100000){a C:Nat}(h4:kk<5)(hi:io=(a:Int))(hC:C=min l.length 1024)(hx:a+C<=35328)(hlim:lim=62*(kk:Int)-48)(hf:48+Zar (wrL M a (l.take C))+Zar Mm<=62*kk)(hk:k=1):
 Calls Tryz.prog 11 #[.pointer (some ⟨bf,0,none⟩),.slice (some ⟨g,0,none⟩) 4 gc,.agg #[.int .i64 k,.int .i64 no,.int .i64 io,.int .i64 vo,u],.int .i64 lim] w fun e w'=>e=.returned (.bool true)/\Rst w0 d p kk bf g n m w':=by
 obtain⟨cf,hB⟩:=h.boxed (Zfc k no io vo u);have hbe:=(Zjm (bf:=bf) w0 d p kk n sz M m sm Mm).be h.ph;have HWR:Hid (∀ (P:Nat->Prop) (V:World),Sd w0 bf (StartF w0 d p kk bf n sz M m sm Mm) (K1 w.heap.size (Zfc k no io vo u)) P g n bn bp sz M m bm bpm sm Mm V->Calls Tryz.prog 19 #[.pointer (some ⟨bf,0,none⟩),.int .i64 n,.int .i64 a,u] V fun e w'=>e=.returned (.tuple #[.int .i64 C,.int .i64 0])/\∃ P',MidF w0 d p kk bf n (szW sz a C) (wrL M a (l.take C)) m sm Mm P' w'/\Chg P P' V w'):=hid fun P V hV=>by
  have hcs:=Zdy (bf:=bf) w0 d p kk n sz M m sm Mm;refine(hV.ph.write h4 hnm (hu.below (hcs.be hV.ph)) (Apt.of_lt hu fun j hj=>(hcs.lt hV.ph j hj).1) hC (by omega) hx).mono ?_;rintro e w' (⟨he,_,hr⟩| ⟨_,hn,_⟩)
  . exact⟨he,hr⟩
  . exact absurd hf hn
 have HNW:Hid (∀ (P:Nat->Prop) (V:World),Sd w0 bf (MidF w0 d p kk bf n (szW sz a C) (wrL M a (l.take C)) m sm Mm) (K1 w.heap.size (Zfc k no io vo u)) P g n bn bp sz M m bm bpm sm Mm V->Calls Tryz.prog 26 #[.pointer (some ⟨bn,0,none⟩),.int .i64 a,u] V fun e w'=>e=.returned (.tuple #[.int .i64 C,.int .i64 0])/\NodeB w' bn bp (szW sz a C) (wrL M a (l.take C))/\Chg (NP bn bp) (NP bn bp) V w'):=hid fun P V hV=>by
  have hcs:=cl_mid (bf:=bf) w0 d p kk n (szW sz a C) (wrL M a (l.take C)) m sm Mm;exact nWrite15_of hV.nd.a (hu.below (hcs.be hV.ph)) (Apt.of_lt hu fun j hj=>(hV.out j (hj.elim .inl fun e=>.inr (.inl e))).1) hC (by omega) hx
 generalize wrL M a (l.take C)=M' at*
 generalize szW sz a C=sz' at*
 obtain⟨xb,hxb⟩:∃ xb,xb=w.heap.size:=⟨_,rfl⟩;rw[<- hxb] at hB;have HXB:=hid hxb;obtain⟨w1,hw1⟩:∃ w1,w1=w.alloc (Zfc k no io vo u):=⟨_,rfl⟩;have H1:Hid (w.alloc (.cells #[.int .i64 k,.int .i64 no,.int .i64 io,.int .i64 vo,u] 32)=w1):=hid hw1.symm;rw[<- hw1] at cf hB;have KB:=hid hB;rw[<- hxb] at HWR HNW;have HNM:=hid hnm;have HLIM:Hid (∀ u2 u3:Nat,u2+u3=Zar M'+Zar Mm->¬ lim<((u2+u3:Nat):Int)):=hid fun u2 u3 e=>by omega
 have y2:((y:Int)).tmod 2=(r:Int):=by rw[Int.tmod_eq_emod_of_nonneg (by omega)];omega
 have y3:IntKind.u64.wrap (r:Int)=(r:Int):=u64_in _ (by omega) (by omega);have y4:IntKind.i64.wrap (r:Int)=(r:Int):=IntWalk.i64_in _ (by omega);have y5:IntKind.i64.wrap (2+(r:Int))=(n:Int):=by rw[IntWalk.i64_in _ (by omega)];omega
 have n4:(n:Int)<4:=by have:=hnm.2.1;omega
 have n4':n<4:=by have:=hnm.2.1;omega
 have HC:=hid (Zdy (bf:=bf) w0 d p kk n sz M m sm Mm);have HCM:=hid (fun(sz:Nat) (M:Nat->Option (List Int))=>cl_mid (bf:=bf) w0 d p kk n sz M m sm Mm);have HCA:=hid (cl_ab (bf:=bf) w0 d p kk n sz M m sm Mm);subst hk hi;clear h hB hxb hw1 hn hr hnm hu hl hbe hx hC hf hlim h4;go_enter Tryz.func11,Tryz.ntmps11;go_upto_region 1 with(fail)
 rw[H1.out,<- HXB.out]
 go_upto_region 14 with(first
  |(go_at_call 18;refine KB.out.mono ?_;rintro e w2 ⟨rfl,P2,hs2⟩;obtain⟨b0,b1,b2,b3,b4⟩:=Zan hs2.box;have cn:=hs2.nd.cn;have KC2:=hid (Zgd hs2.nd.a))
  |(go_at_call 25;(with_reducible refine KC2.out.mono ?_);rintro e w3 ⟨cb,cp,rfl,_,_,_,hb3⟩;replace hs2:=hs2.low HC.out hb3;obtain⟨b0,b1,b2,b3,b4⟩:=Zan hs2.box;have KR3:=hid (HWR.out _ _ hs2))
  |(go_at_call 19;(with_reducible refine KR3.out.mono ?_);rintro e w4 ⟨rfl,P4,hm4,hc4⟩;have hs4:=hs2.fsy hm4 hc4;obtain⟨b0,b1,b2,b3,b4⟩:=Zan hs4.box;have KR4:=hid (HNW.out _ _ hs4))
  |(go_at_call 26;(with_reducible refine KR4.out.mono ?_);rintro e w5 ⟨rfl,hn5,hc5⟩;have hs5:=hs4.node (HCM.out _ _) hn5 hc5))
 obtain⟨q2,q3,u2,u3,g2,g3,hu2,hu3,hus,ul2,ul3⟩:=hs5.nd.two HNM.out;have hlm:=HLIM.out u2 u3 hus;have hw23:IntKind.i64.wrap ((u2:Int)+(u3:Int))=((u2+u3:Nat):Int):=by rw[IntWalk.i64_in _ (by omega)];omega
 generalize u2+u3=U at hw23 hlm hus;have KU2:=hid hu2;have KU3:=hid hu3;have HS5:=hid hs5;clear hs5 hs4 hs2 hn5 hc5 hb3 hm4 hc4 hu2 hu3 ul2 ul3 hus;go_quiet ((go_at_call 14;first|(with_reducible refine Zai (KU2.out _))|(with_reducible refine Zai (KU3.out _))))
 have hs6:=HS5.out.low (HCM.out _ _) (Zab (Below.refl _ _) nq:Below w5.heap.size w5 (w5.drewN nq));have cf5:=hs6.ph.fs.cell;have KE5:=hid hs6.ph.keep;go_wp2_with (go_at_call 21;(with_reducible refine KE5.out.mono ?_);rintro e w6 ⟨rfl,P6,hr6,hc6⟩)
 go_ret;exact⟨rfl,P6,_,_,_,_,_,_,_,_,(hs6.fsy hr6 hc6).forget⟩
end
section
variable {w0 w:World}{d p:Value}{kk bf g gc n bn bp sz m bm bpm sm:Nat}{M Mm:Nat->Option (List Int)}{P:Nat->Prop}{k no io vo lim:Int}{u:Value}{l:List Int}{r y:Nat}
theorem wpList_store_n15{ops:Array Oper}{rest:List Oper}{o:Oper}{a:Act}{w:World}{Q:Exit->Act->World->Prop}(hgd:o.guard=none)(x q:Operand)(ho:o.op=.store 53 x q)
 (b:Nat) (hx:a.eval x=.pointer (some ⟨b,0,none⟩)) (c0 c1 c2 c3 c4:Value) (hy:a.eval q=.agg #[c0,c1,c2,c3,c4]) (h0:c0.oneCell'=true) (h1:c1.oneCell'=true) (h2:c2.oneCell'=true) (h3:c3.oneCell'=true) (h4:c4.oneCell'=true) (old:Array Value) (hg:w.heap[b]? =some (.cells old 53 (0,0))) (hold:old.size=5)
 (h:wpList Tryz.prog ops Q rest (a.put o.dst undef) (w.setRow b #[c0,c1,c2,c3,c4])):wpList Tryz.prog ops Q (o :: rest) a w:=
 wpList_store_row hgd 53 x q ho b #[c0,c1,c2,c3,c4] hx hy 53 old hg infoNode15 hold (by simp[h0,h1,h2,h3,h4]) h
set_option maxHeartbeats 4000000 in
theorem do15_no(h:Sd w0 bf (RestF w0 d p kk bf n sz M m sm Mm) (fun _=>none) P g n bn bp sz M m bm bpm sm Mm w)(hnm:NM n m)(hy:IntKind.u64.wrap no=(y:Int))(hr:r=y%2)(hn:n=2+r)(hu:BSl w0 u l)(hl:(l.length:Int)<=100000){a C:Nat}(h4:kk<5)(hi:io=(a:Int))(hC:C=min l.length 1024)(hx:a+C<=35328)(hlim:lim=62*(kk:Int)-48)(hf:¬ 48+Zar (wrL M a (l.take C))+Zar Mm<=62*kk)(hk:k=1):
 Calls Tryz.prog 11 #[.pointer (some ⟨bf,0,none⟩),.slice (some ⟨g,0,none⟩) 4 gc,.agg #[.int .i64 k,.int .i64 no,.int .i64 io,.int .i64 vo,u],.int .i64 lim] w fun e w'=>e=.returned (.bool true)/\Rst w0 d p kk bf g n m w':=by
 obtain⟨cf,hB⟩:=h.boxed (Zfc k no io vo u);have hbe:=(Zjm (bf:=bf) w0 d p kk n sz M m sm Mm).be h.ph;have HWR:Hid (∀ (cb cp:Nat) (ob op:Obj) (P:Nat->Prop) (V:World),Sd w0 bf (StartF w0 d p kk bf n sz M m sm Mm) (fun y=>if y=cp then some op else if y=cb then some ob else K1 w.heap.size (Zfc k no io vo u) y) P g n bn bp sz M m bm bpm sm Mm V->Calls Tryz.prog 19 #[.pointer (some ⟨bf,0,none⟩),.int .i64 n,.int .i64 a,u] V fun e w'=>e=.returned (.tuple #[.int .i64 0,.int .i64 13])/\∃ P',AbF w0 d p kk bf n sz M m sm Mm P' w'/\Chg P P' V w'):=hid fun cb cp ob op P V hV=>by
  have hcs:=Zdy (bf:=bf) w0 d p kk n sz M m sm Mm;refine(hV.ph.write h4 hnm (hu.below (hcs.be hV.ph)) (Apt.of_lt hu fun j hj=>(hcs.lt hV.ph j hj).1) hC (by omega) hx).mono ?_;rintro e w' (⟨_,hy,_⟩| ⟨he,_,hr⟩)
  . exact absurd hy hf
  . exact⟨he,hr⟩
 have HNW:Hid (∀ (cb cp:Nat) (ob op:Obj) (P:Nat->Prop) (V:World),Sd w0 bf (AbF w0 d p kk bf n sz M m sm Mm) (fun y=>if y=cp then some op else if y=cb then some ob else K1 w.heap.size (Zfc k no io vo u) y) P g n bn bp sz M m bm bpm sm Mm V->Calls Tryz.prog 26 #[.pointer (some ⟨bn,0,none⟩),.int .i64 a,u] V fun e w'=>e=.returned (.tuple #[.int .i64 C,.int .i64 0])/\NodeB w' bn bp (szW sz a C) (wrL M a (l.take C))/\Chg (NP bn bp) (NP bn bp) V w'):=hid fun cb cp ob op P V hV=>by
  have hcs:=cl_ab (bf:=bf) w0 d p kk n sz M m sm Mm;exact nWrite15_of hV.nd.a (hu.below (hcs.be hV.ph)) (Apt.of_lt hu fun j hj=>(hV.out j (hj.elim .inl fun e=>.inr (.inl e))).1) hC (by omega) hx
 generalize wrL M a (l.take C)=M' at*
 generalize szW sz a C=sz' at*
 obtain⟨xb,hxb⟩:∃ xb,xb=w.heap.size:=⟨_,rfl⟩;rw[<- hxb] at hB;have HXB:=hid hxb;obtain⟨w1,hw1⟩:∃ w1,w1=w.alloc (Zfc k no io vo u):=⟨_,rfl⟩;have H1:Hid (w.alloc (.cells #[.int .i64 k,.int .i64 no,.int .i64 io,.int .i64 vo,u] 32)=w1):=hid hw1.symm;rw[<- hw1] at cf hB;have KB:=hid hB;rw[<- hxb] at HWR HNW;have HNM:=hid hnm;have HLIM:Hid (∀ u2 u3:Nat,u2+u3=Zar M'+Zar Mm->lim<((u2+u3:Nat):Int)):=hid fun u2 u3 e=>by omega
 have y2:((y:Int)).tmod 2=(r:Int):=by rw[Int.tmod_eq_emod_of_nonneg (by omega)];omega
 have y3:IntKind.u64.wrap (r:Int)=(r:Int):=u64_in _ (by omega) (by omega);have y4:IntKind.i64.wrap (r:Int)=(r:Int):=IntWalk.i64_in _ (by omega);have y5:IntKind.i64.wrap (2+(r:Int))=(n:Int):=by rw[IntWalk.i64_in _ (by omega)];omega
 have n4:(n:Int)<4:=by have:=hnm.2.1;omega
 have n4':n<4:=by have:=hnm.2.1;omega
 have HC:=hid (Zdy (bf:=bf) w0 d p kk n sz M m sm Mm);have HCM:=hid (fun(sz:Nat) (M:Nat->Option (List Int))=>cl_mid (bf:=bf) w0 d p kk n sz M m sm Mm);have HCA:=hid (cl_ab (bf:=bf) w0 d p kk n sz M m sm Mm);subst hk hi;clear h hB hxb hw1 hn hr hnm hu hl hbe hx hC hf hlim h4;go_enter Tryz.func11,Tryz.ntmps11;go_upto_region 1 with(fail)
 rw[H1.out,<- HXB.out]
 go_upto_region 14 with(first
  |(go_at_call 18;refine KB.out.mono ?_;rintro e w2 ⟨rfl,P2,hs2⟩;obtain⟨b0,b1,b2,b3,b4⟩:=Zan hs2.box;have cn:=hs2.nd.cn;have HBX2:=hid (Array.getElem?_eq_some_iff.1 hs2.box).1;have KC2:=hid (Zgd hs2.nd.a))
  |(go_at_call 25;(with_reducible refine KC2.out.mono ?_);rintro e w3 ⟨cb,cp,rfl,hnc,hcb,hcp,hb3⟩;obtain⟨ob,op,hs3,hne⟩:=hs2.copied HC.out hb3 hcb hcp hnc;have hx3:=(hs3.own xb _ (K3_box (by have:=HBX2.out;omega) (by have:=HBX2.out;omega))).1;obtain⟨b0,b1,b2,b3,b4⟩:=Zan hx3;have KR3:=hid (HWR.out _ _ _ _ _ _ hs3))
  |(go_at_call 19;(with_reducible refine KR3.out.mono ?_);rintro e w4 ⟨rfl,P4,hm4,hc4⟩;have hs4:=hs3.fsy hm4 hc4;have hx4:=(hs4.own xb _ (K3_box (by have:=HBX2.out;omega) (by have:=HBX2.out;omega))).1;obtain⟨b0,b1,b2,b3,b4⟩:=Zan hx4;have KR4:=hid (HNW.out _ _ _ _ _ _ hs4))
  |(go_at_call 26;(with_reducible refine KR4.out.mono ?_);rintro e w5 ⟨rfl,hn5,hc5⟩;have hs5:=hs4.node HCA.out hn5 hc5))
 obtain⟨q2,q3,u2,u3,g2,g3,hu2,hu3,hus,ul2,ul3⟩:=hs5.nd.two HNM.out;have hlm:=HLIM.out u2 u3 hus;have hw23:IntKind.i64.wrap ((u2:Int)+(u3:Int))=((u2+u3:Nat):Int):=by rw[IntWalk.i64_in _ (by omega)];omega
 generalize u2+u3=U at hw23 hlm hus;have KU2:=hid hu2;have KU3:=hid hu3;have HN5:=hid (hs3.cpy hne hnc hs5);have HS5:=hid hs5;clear hs5 hs4 hs3 hs2 hn5 hc5 hb3 hm4 hc4 hu2 hu3 ul2 ul3 hus hnc hcb hcp hx3 hx4 hne;go_quiet ((go_at_call 14;first|(with_reducible refine Zai (KU2.out _))|(with_reducible refine Zai (KU3.out _))))
 have hs6:=HS5.out.low HCA.out (Zab (Below.refl _ _) nq:Below w5.heap.size w5 (w5.drewN nq));have hn6:NodeB (w5.drewN nq) cb cp sz M:=HN5.out.keep rfl rfl;obtain⟨ao,cap,old,f0,f1,f2,f3,f4,hbn,hold,hs7⟩:=hs6.back HCA.out (ob:=op) (by simp) hn6;clear HS5 HN5 hs6 hn6 g2 g3 b0 b1 b2 b3 b4 cn;generalize w5.drewN nq=w6 at*
 have hw7:=hid (Wrote.setRow w6 bn #[.int .i64 1,.int .i64 0,.int .i64 sz,.map (some cp),.slice ao 0 cap]);have HS7:=hid hs7;clear hs7
 go_wp2_with (first
  |(with_reducible refine wpList_store_n15 rfl (.tmp 116) (.tmp 115) rfl bn rfl (.int .i64 1) (.int .i64 0) (.int .i64 sz) (.map (some cp)) (.slice ao 0 cap) rfl rfl rfl rfl rfl rfl old hbn hold ?_
    have cf7:=HS7.out.ph.fs.cell;have KE7:=hid HS7.out.ph.undo;generalize w6.setRow bn #[.int .i64 1,.int .i64 0,.int .i64 sz,.map (some cp),.slice ao 0 cap]=w7 at *)
  |(go_at_call 21;(with_reducible refine KE7.out.mono ?_);rintro e w8 ⟨rfl,P8,hr8,hc8⟩))
 go_ret;exact⟨rfl,P8,_,_,_,_,_,_,_,_,HS7.out.fsy hr8 hc8⟩
end
end Go.Proofs.YtedabomlfcghoaaGreat
namespace Go.Proofs.YtedabomlfcghoaaGreat
set_option maxRecDepth 100000
open Go.RowKit Go.ChangeShapes Go.WideShapes
structure O13 where
 k:Int
 ino:Int
 kd:Int
 n:Int
 I:List Int
 S:List Int
 i:Int
 a:Int
instance:Inhabited O13:=⟨⟨0,0,0,0,[],[],0,0⟩⟩
section
variable {H:Type}{enc:TypeId × Value->H}{W:World}{base:Nat}{spare:Nat->Bool}{held:Bool}
theorem Zkn(cs:List Value)(a b c:Nat)(h:c=a+b):cs.drop a=(cs.drop a).take b ++ cs.drop c:=by
 rw[h,<- List.drop_drop,List.take_append_drop]
end
def Fit9{H:Type}(t:TypeId)(d:DataW H):Prop:=∀ n∈d.weights Tryz.prog t,n<=reachBytes
theorem Zhq{H:Type}{P:Program}{e:TypeId}:∀ {ds:List (DataW H)}{i:Nat}{d:DataW H},ds[i]? =some d->∀ n∈d.weights P e,n∈DataW.weightsAll P e ds
 |[],i,d,h=>by simp at h
 |x :: ds,0,d,h=>fun n hn=>by
  obtain rfl:x=d:=by simpa using h
  unfold DataW.weightsAll;exact List.mem_append_left _ hn
 |x :: ds,i+1,d,h=>fun n hn=>by
  unfold DataW.weightsAll;exact List.mem_append_right _ (Zhq (by simpa using h) n hn)
theorem Fit9.slice{H:Type}{t e:TypeId}{elems spare:List (DataW H)}(hu:Tryz.prog.underlying t=some (.slice e))(h:Fit9 t (.slice elems spare)):
 (elems.length+spare.length)*Tryz.prog.bytesOf e<=reachBytes/\∀ (i:Nat) (d:DataW H),elems[i]? =some d->Fit9 e d:=by
 unfold Fit9 at h;unfold DataW.weights at h;rw[hu] at h;exact⟨h _ (List.mem_cons_self ..),fun i d hd n hn=>h n (List.mem_cons_of_mem _ (List.mem_append_left _ (Zhq hd n hn)))⟩
theorem Fit9.struct{H:Type}{t:TypeId}{fs:Array Field}{parts:List (DataW H)}(hu:Tryz.prog.underlying t=some (.struct fs))(h:Fit9 t (.agg parts)){i:Nat}{u:TypeId}{d:DataW H}(ht:(fs.toList.map (·.type))[i]? =some u)(hd:parts[i]? =some d):Fit9 u d:=by
 unfold Fit9 at h;unfold DataW.weights at h;rw[hu] at h;exact fun n hn=>h n (DataW.weights_mem_each ht hd n hn)
theorem Fit9.top{H:Type}{ts:List TypeId}{ds:List (DataW H)}{j:Nat}{t:TypeId}{d:DataW H}(h:((DataW.weightsEach Tryz.prog ts ds).all fun x=>decide (x<=reachBytes))=true)(ht:ts[j]? =some t)(hd:ds[j]? =some d):Fit9 t d:=fun n hn=>by
 have:=List.all_eq_true.1 h n (DataW.weights_mem_each ht hd n hn)
 simpa using this
section
variable {H:Type}{enc:TypeId × Value->H}{W:World}{base:Nat}{spare:Nat->Bool}{held:Bool}
theorem bsl_of_trod{cs:List Value}{fuel:Nat}{y:DataW H × List MemPlace}(hf:DataW.trod enc Tryz.prog W base spare held fuel 30 cs=some y):∃ v l,cs=[v]/\BSl W v l/\(Fit9 30 y.1->l.length<=reachBytes):=by
 rcases open_ints Tryz.underlying30 Tryz.underlying5 (by kernel_rfl) hf with⟨hcs,_⟩| ⟨x,len,cap,zs,hcs,_,hl,hm,hz,hx,hcell,hwz⟩
 . exact⟨_,[],hcs,Zhd _,fun _=>Nat.zero_le _⟩
 . have hge:len<=zs.length:=by rw[hz];split <;> omega
   have hlen:(zs.take len).length=len:=by simp;omega
   have hget:∀ j,j<len->(zs.take len).getD j 0=zs.getD j 0:=fun j hj=>by
    simp[List.getD_eq_getElem?_getD,hj]
   have hbyt:Byt (zs.take len):=Zax fun x hx=>bounds_u8 (hwz x (List.mem_of_mem_take hx))
   refine⟨_,zs.take len,hcs,⟨hbyt,.inr ⟨x,cap,by rw[hlen],by omega,fun j hj=>?_⟩⟩,fun hfit=>?_⟩
   rotate_left
   . rw[hx] at hfit
     have h1:=(Fit9.slice Tryz.underlying30 hfit).1;have hby:Tryz.prog.bytesOf 5=1:=by kernel_rfl
     rw[hby] at h1;simp only[lits,List.length_map,Nat.mul_one] at h1;omega
   rw[hlen] at hj;have h0:=hcell j (by omega);obtain⟨b,off,spot⟩:=x;have hspot:spot=none:=by
    have h00:=hcell 0 (by omega)
    simpa [Addr.add] using World.cell?_spot h00
   subst hspot;rw[Addr.add_lit] at h0;exact⟨by have:=block_lt_of_cell h0;exact this,rfl,by rw[hget j hj];exact h0⟩
theorem bytesCells9:Tryz.prog.cellsOf 30=1:=by kernel_rfl
end
structure O15 where
 k:Int
 n:Int
 i:Int
 v:Int
 b:List Int
instance:Inhabited O15:=⟨⟨0,0,0,0,[]⟩⟩
structure Op15At (W:World) (b o:Nat) (u:Value) (x:O15):Prop where
 lt:b<W.heap.size
 c:W.rangeAt b o [.int .i64 x.k,.int .i64 x.n,.int .i64 x.i,.int .i64 x.v,u]
 bs:BSl W u x.b
 n:in64 x.n
 i:in64 x.i
 v:in64 x.v
def OpsB(W:World)(v:Value)(S:List O15):Prop:=
 (∃ a c,v=.slice a 0 c/\S=[])\/∃ b off cap,v=.slice (some ⟨b,off,none⟩) S.length cap/\∀ i,i<S.length->∃ u,Op15At W b (off+i*5) u (S.getD i default)
theorem op15Cells:Tryz.prog.cellsOf 32=5:=by kernel_rfl
section
variable {H:Type}{enc:TypeId × Value->H}{W:World}{base:Nat}{spare:Nat->Bool}{held:Bool}
theorem op15_cells{cs:List Value}{m:Nat}{y:DataW H × List MemPlace}(hl:cs.length=5)(ht:DataW.trod enc Tryz.prog W base (fun _=>true) held m 32 cs=some y):
 ∃ (u:Value) (o:O15),cs=[.int .i64 o.k,.int .i64 o.n,.int .i64 o.i,.int .i64 o.v,u]/\BSl W u o.b/\in64 o.n/\in64 o.i/\in64 o.v/\(Fit9 32 y.1->o.b.length<=reachBytes):=by
 obtain⟨xs,n,_,hy,hlen,hxs,hf⟩:=DataW.trod_struct Tryz.underlying32 ht
 match xs,hxs with
 |[y0,y1,y2,y3,y4],_=>
  have g0:DataW.trod enc Tryz.prog W base (fun _=>true) held n 3 (List.take (Tryz.prog.cellsOf 3) (List.drop 0 cs))=some y0:=hf 0 _ rfl;have g1:DataW.trod enc Tryz.prog W base (fun _=>true) held n 3 (List.take (Tryz.prog.cellsOf 3) (List.drop 1 cs))=some y1:=hf 1 _ rfl;have g2:DataW.trod enc Tryz.prog W base (fun _=>true) held n 3 (List.take (Tryz.prog.cellsOf 3) (List.drop 2 cs))=some y2:=hf 2 _ rfl;have g3:DataW.trod enc Tryz.prog W base (fun _=>true) held n 3 (List.take (Tryz.prog.cellsOf 3) (List.drop 3 cs))=some y3:=hf 3 _ rfl;have g4:DataW.trod enc Tryz.prog W base (fun _=>true) held n 30 (List.take (Tryz.prog.cellsOf 30) (List.drop 4 cs))=some y4:=hf 4 _ rfl;rw[intCells12] at g0 g1 g2 g3;rw[bytesCells9] at g4;obtain⟨k,e0,_,wf0⟩:=DataW.trod_int Tryz.underlying3 g0;obtain⟨no,e1,_,wf1⟩:=DataW.trod_int Tryz.underlying3 g1;obtain⟨io,e2,_,wf2⟩:=DataW.trod_int Tryz.underlying3 g2;obtain⟨vo,e3,_,wf3⟩:=DataW.trod_int Tryz.underlying3 g3;obtain⟨u,l,e4,hb,hrb⟩:=bsl_of_trod g4;refine⟨u,⟨k,no,io,vo,l⟩,?_,hb,bounds_i64 wf1,bounds_i64 wf2,bounds_i64 wf3,fun h=>hrb (by
   rw[hy] at h;exact Fit9.struct Tryz.underlying32 h (i:=4) (u:=30) rfl rfl)⟩
  have h0:cs=cs.drop 0:=rfl;rw[h0,Zkn cs 0 1 1 rfl,Zkn cs 1 1 2 rfl,Zkn cs 2 1 3 rfl,Zkn cs 3 1 4 rfl,Zkn cs 4 1 5 rfl,e0,e1,e2,e3,e4,List.drop_of_length_le (show cs.length<=5 by omega)];rfl
theorem ops15_open{v:Value}{d:DataW H}{p:List MemPlace}{r:Reach}{b0:Nat}(hv:Value.okWide Tryz.prog W r b0 22 v)(h:DataW.Trod enc Tryz.prog W base (fun _=>true) held 22 v d p):
 ∃ S:List O15,OpsB W v S/\∀ (ts:List TypeId) (ds:List (DataW H)) (j:Nat),((DataW.weightsEach Tryz.prog ts ds).all fun x=>decide (x<=reachBytes))=true->ts[j]? =some 22->ds[j]? =some d->∀ k,(S.getD k default).b.length<=reachBytes:=by
 obtain⟨a0,len0,cap0,rfl⟩:=okWide_slice Tryz.underlying22 hv;obtain⟨fuel,hf⟩:=h;rcases Go.Deep.open_slice Tryz.underlying22 hf with⟨hcs,_⟩| ⟨a,len,cap,m,n,D,Pl,hcs,_,hl,hm,hmm,hx,hi⟩
 . simp[Value.cells] at hcs
   obtain⟨rfl,rfl,rfl⟩:=hcs;exact⟨[],.inl ⟨_,_,rfl,rfl⟩,fun ts ds j _ _ _ k=>by simp[default,instInhabitedO15]⟩
 . simp[Value.cells] at hcs
   obtain⟨rfl,rfl,rfl⟩:=hcs;have hlm:len0<=m:=by rw[hmm];split <;> omega
   have hd:d=.slice ((List.range len0).map D) ((List.range (m-len0)).map fun j=>D (len0+j)):=(Prod.mk.inj hx).1;have hex:∀ i,i<len0->∃ o:O15,∃ u:Value,(∀ (j:Nat) v,([.int .i64 o.k,.int .i64 o.n,.int .i64 o.i,.int .i64 o.v,u]:List Value)[j]? =some v->W.cell? (a.add (i*5+j))=some v)/\BSl W u o.b/\in64 o.n/\in64 o.i/\in64 o.v/\(Fit9 32 (D i)->o.b.length<=reachBytes):=fun i hi2=>by
    obtain⟨cs',hc,ht⟩:=hi i (by omega);rw[op15Cells] at hc;obtain⟨_,hcl,hat⟩:=World.cells?_some hc;obtain⟨u,o,rfl,ho⟩:=op15_cells hcl ht;refine⟨o,u,fun j v hj=>?_,ho⟩;have hj2:j<5:=(List.getElem?_eq_some_iff.1 hj).1;have:=hat j hj2;rw[hj] at this;rw[<- Go.Deep.add_add];exact this
   obtain⟨f,hfn⟩:=Go.Deep.choose_lt hex;have hget:∀ i,i<len0->((List.range len0).map f).getD i default=f i:=fun i hi3=>by simp[List.getD_eq_getElem?_getD,hi3]
   have hfit:∀ (ts:List TypeId) (ds:List (DataW H)) (j:Nat),((DataW.weightsEach Tryz.prog ts ds).all fun x=>decide (x<=reachBytes))=true->ts[j]? =some 22->ds[j]? =some d->∀ k,(((List.range len0).map f).getD k default).b.length<=reachBytes:=fun ts ds j hz h1 h2 k=>by
    by_cases hk:k<len0
    . rw[hget k hk]
      obtain⟨u,_,_,_,_,_,hr⟩:=hfn k hk;have:=Fit9.top hz h1 h2;rw[hd] at this;exact hr ((Fit9.slice Tryz.underlying22 this).2 k (D k) (by simp[hk]))
    . rw[List.getD_eq_getElem?_getD,List.getElem?_eq_none (by simp;omega)];exact Nat.zero_le _
   by_cases h0:len0=0
   . subst h0
     exact⟨(List.range 0).map f,.inl ⟨_,_,rfl,rfl⟩,hfit⟩
   refine⟨(List.range len0).map f,.inr ?_,hfit⟩;obtain⟨b,off,spot⟩:=a;have hsp:spot=none:=by
    obtain⟨u,z,_⟩:=hfn 0 (by omega);have z0:=z 0 _ rfl
    simpa [Addr.add] using World.cell?_spot z0
   subst hsp;refine⟨b,off,cap0,by simp,fun i hi2=>?_⟩;have hi3:i<len0:=by simpa using hi2
   rw[hget i hi3];obtain⟨u,hr,ho1,ho2,ho3,ho4,_⟩:=hfn i hi3;have hr2:W.rangeAt b (off+i*5) [.int .i64 (f i).k,.int .i64 (f i).n,.int .i64 (f i).i,.int .i64 (f i).v,u]:=fun j v hj=>by
    have:=hr j v hj;rw[Addr.add_lit] at this;rw[Nat.add_assoc];exact this
   exact⟨u,block_lt_of_cell (hr2 0 _ rfl),hr2,ho1,ho2,ho3,ho4⟩
end
end Go.Proofs.YtedabomlfcghoaaGreat
namespace Go.Proofs.YtedabomlfcghoaaGreat
set_option maxRecDepth 100000
open Go.RowKit BM
section
variable {w0 w:World}{d p:Value}{kk bf g gc:Nat}{lim:Int}{u:Value}
theorem do15_nm{n m bn bp sz bm bpm sm r y:Nat}{M Mm:Nat->Option (List Int)}{P:Nat->Prop}(h4:kk<5)(o:O15)(hu:BSl w0 u o.b)(hl:(o.b.length:Int)<=100000)(hi:in64 o.i)(hv:in64 o.v)(hlim:lim=62*(kk:Int)-48)
 (h:Sd w0 bf (RestF w0 d p kk bf n sz M m sm Mm) (fun _=>none) P g n bn bp sz M m bm bpm sm Mm w) (hnm:NM n m) (hy:IntKind.u64.wrap o.n=(y:Int)) (hr:r=y%2) (hn:n=2+r):
 Calls Tryz.prog 11 #[.pointer (some ⟨bf,0,none⟩),.slice (some ⟨g,0,none⟩) 4 gc,.agg #[.int .i64 o.k,.int .i64 o.n,.int .i64 o.i,.int .i64 o.v,u],.int .i64 lim] w fun e w'=>e=.returned (.bool true)/\Rst w0 d p kk bf g n m w':=by
 have hi2:o.i<=9223372036854775807:=by have:=hi.2;omega
 have hv2:o.v<=9223372036854775807:=by have:=hv.2;omega
 by_cases k1:o.k=1
 . by_cases hE:o.i<0\/35328<o.i+(min o.b.length 1024:Nat)
   . exact do15_wrE h hnm hy hr hn hu hl hE k1
   . obtain⟨a,ha⟩:∃ a:Nat,o.i=(a:Int):=⟨o.i.toNat,by omega⟩
     by_cases hf:48+Zar (wrL M a (o.b.take (min o.b.length 1024)))+Zar Mm<=62*kk
     . exact do15_wr h hnm hy hr hn hu hl h4 ha rfl (by omega) hlim hf k1
     . exact do15_no h hnm hy hr hn hu hl h4 ha rfl (by omega) hlim hf k1
 . by_cases k2:o.k=2
   . by_cases hE:o.i<0\/35328<o.i
     . exact do15_rsE h hnm hy hr hn hE k2
     . obtain⟨v,hv⟩:∃ v:Nat,o.i=(v:Int):=⟨o.i.toNat,by omega⟩
       exact do15_rs h hnm hy hr hn h4 hv (by omega) k2
   . exact do15_read h hnm hi2 hv2 hy hr hn k1 k2
theorem do15_any(h4:kk<5)(o:O15)(hu:BSl w0 u o.b)(hl:(o.b.length:Int)<=100000)(hi:in64 o.i)(hv:in64 o.v)(hlim:lim=62*(kk:Int)-48)(h:Rst w0 d p kk bf g 2 3 w):
 Calls Tryz.prog 11 #[.pointer (some ⟨bf,0,none⟩),.slice (some ⟨g,0,none⟩) 4 gc,.agg #[.int .i64 o.k,.int .i64 o.n,.int .i64 o.i,.int .i64 o.v,u],.int .i64 lim] w fun e w'=>e=.returned (.bool true)/\Rst w0 d p kk bf g 2 3 w':=by
 obtain⟨y,hy⟩:∃ y:Nat,IntKind.u64.wrap o.n=(y:Int):=⟨(IntKind.u64.wrap o.n).toNat,by rw[IntKind.wrap_u64];omega⟩;by_cases c:y%2=0
 . obtain⟨P,bn,bp,sz,M,bm,bpm,sm,Mm,h⟩:=h
   exact do15_nm h4 o hu hl hi hv hlim h ⟨by decide,by decide,by decide,by decide,by decide⟩ hy c.symm rfl
 . obtain⟨P,bn,bp,sz,M,bm,bpm,sm,Mm,h⟩:=h.swap
   exact(do15_nm h4 o hu hl hi hv hlim h ⟨by decide,by decide,by decide,by decide,by decide⟩ hy (show 1=y%2 by omega) rfl).mono fun e w' ⟨he,hr⟩=>⟨he,hr.swap⟩
end
set_option maxHeartbeats 1000000 in
theorem few15_of{w:World}{v:Value}{S:List O15}(hs:OpsB w v S)(hl:∀ j,(S.getD j default).b.length<=200000000000000):
 Calls Tryz.prog 8 #[v] w fun e w'=>∃ b,e=.returned (.bool b)/\w=w'/\(b=true->S.length<=60/\∀ j,j<S.length->(S.getD j default).b.length<=40000):=by
 rcases hs with⟨a,c,rfl,rfl⟩| ⟨b,off,cap,rfl,hc⟩
 . go_enter Tryz.func8,Tryz.ntmps8
   go_wp2;go_loopw [3,7] (fun n i wr=>w=wr/\n=.int .i64 0/\i=.int .i64 0) (fun _ _ _=>0)
   case atStart=>exact⟨rfl,rfl,rfl⟩
   case round=>
    obtain⟨rfl,rfl,rfl⟩:=hrel;go_wp2;go_ret
    first|exact⟨true,rfl,rfl,fun _=>⟨by simp,fun j hj=>absurd hj (Nat.not_lt_zero j)⟩⟩|exact .inr ⟨rfl,rfl⟩
 . have HC:Hid (∀ i,i<S.length->∃ u n c,w.cell? ⟨b,off+i*5+4,none⟩=some (.slice u n c)/\n=(S.getD i default).b.length):=hid fun i hi=>by
    obtain⟨u,hu⟩:=hc i hi;obtain⟨ao,cp,e,_⟩:=hu.bs.shape;exact⟨ao,_,cp,by rw[<- e];exact hu.c 4 u rfl,rfl⟩
   have HL:=hid hl;obtain⟨L,hL⟩:∃ L,L=S.length:=⟨_,rfl⟩;have hcap:(L:Int)<=9223372036854775807\/True:=.inr trivial;rw[<- hL] at HC |-
   clear hc hl hL hcap;go_enter Tryz.func8,Tryz.ntmps8;go_wp2;go_loopw [3,7] (fun n i wr=>w=wr/\∃ k s:Nat,k<=L/\k<=60/\s<=40000/\n=.int .i64 s/\i=.int .i64 k/\∀ j,j<k->(S.getD j default).b.length<=40000) (fun _ i _=>100-(intOf i).toNat)
   case atStart=>exact⟨rfl,0,0,Nat.zero_le _,by omega,by omega,rfl,rfl,fun j hj=>absurd hj (Nat.not_lt_zero j)⟩
   case round=>
    obtain⟨rfl,k,s,hk,hk60,hs,rfl,rfl,hj⟩:=hrel;by_cases hlt:k<L
    . obtain⟨u,n,c,hcell,hn⟩:=HC.out k hlt
      have hnb:n<=200000000000000:=by have:=HL.out k;omega
      have ek:(k:Int)<(L:Int):=by omega
      obtain⟨t,ht⟩:∃ t,t=s+n:=⟨_,rfl⟩;have q1:IntKind.i64.wrap ((s:Int)+(n:Int))=(t:Int):=by rw[IntWalk.i64_in _ (by omega)];omega
      obtain⟨k1,hk1⟩:∃ k1,k1=k+1:=⟨_,rfl⟩;have q2:IntKind.i64.wrap ((k:Int)+1)=(k1:Int):=by rw[IntWalk.i64_in _ (by omega)];omega
      have HJ:=hid hj;by_cases h60:60<=k
      . have e1:(60:Int)<=(k:Int):=by omega
        clear hj HC HL hnb ht hk1 hn;go_wp2;go_ret
        first|exact⟨false,rfl,rfl,fun h=>by cases h⟩|exact .inl ⟨rfl,rfl⟩
      . have e1:¬ (60:Int)<=(k:Int):=by omega
        by_cases h4:40000<t
        . have e2:(40000:Int)<(t:Int):=by omega
          clear hj HC HL hnb ht hk1 hn;go_wp2;go_ret
          first|exact⟨false,rfl,rfl,fun h=>by cases h⟩|exact .inl ⟨rfl,rfl⟩
        . have e2:¬ (40000:Int)<(t:Int):=by omega
          have HN:Hid (n=(S.getD k default).b.length/\n<=40000/\k1=k+1/\k1<=L/\k1<=60/\t<=40000):=hid ⟨hn,by omega,hk1,by omega,by omega,by omega⟩;clear hj HC HL hnb ht hk1 hn;go_wp2;go_roundw
          case rel=>exact⟨by trivial,k1,t,HN.out.2.2.2.1,HN.out.2.2.2.2.1,HN.out.2.2.2.2.2,rfl,rfl,fun j hj=>by
           have h:=HN.out;by_cases e:j=k
           . subst e;omega
           . exact HJ.out j (by omega)⟩
          case measure=>have:=HN.out;clear q1 q2;simp[intOf];omega
    . have ek:¬ (k:Int)<(L:Int):=by omega
      have HJ:Hid (L<=60/\∀ j,j<L->(S.getD j default).b.length<=40000):=hid ⟨by omega,fun j h=>hj j (by omega)⟩;clear hj;go_wp2;go_ret
      first|exact⟨true,rfl,rfl,fun _=>HJ.out⟩|exact .inr ⟨rfl,rfl,HJ.out⟩
def pvN(x:Nat × Nat):Value:=.pointer (some ⟨x.1,0,none⟩)
structure NL (w:World) (B:Nat) (v:Value) (L:List (Nat × Nat)):Prop where
 own:w.ownsRow B 40 1 v L.length (L.map pvN)
 nd:∀ x∈L,B<=x.1/\B<=x.2/\NodeB w x.1 x.2 0 fun _=>none
 inc:L.Pairwise fun x y=>x.1≠y.1/\x.2≠y.2
theorem infoPN:(Tryz.prog.info? 40).map (fun i=>(i.zero,i.size,i.bytes))=some (some (.pointer none),1,8):=by kernel_rfl
theorem NL.append{w w1:World}{B:Nat}{v:Value}{L:List (Nat × Nat)}(h:NL w B v L)(hB:B<=w.heap.size)(hb:Below w.heap.size w w1)(hL:L.length<=1000000){x:Nat × Nat}(hx1:w.heap.size<=x.1)(hx2:w.heap.size<=x.2)(hn:NodeB w1 x.1 x.2 0 fun _=>none)
 {ops:Array Oper} {rest:List Oper} {o:Oper} {a:Act} {Q:Exit->Act->World->Prop} (hgd:o.guard=none) (s y:Operand)
 (ho:o.op=.call { callee:=.builtin .append,args:=#[s,y],argTypes:=#[27,27] }) (hs:a.eval s=v) (hy:a.eval y=.slice (some ⟨w1.heap.size,0,none⟩) 1 1)
 (hk:∀ v' w',NL w' B v' (L ++ [x])->Below B w w'->wpList Tryz.prog ops Q rest (a.put o.dst v') w'):wpList Tryz.prog ops Q (o :: rest) a (w1.alloc (.cells #[pvN x] 40)):=by
 obtain⟨t,h2,h3,h4,h5⟩:=info_parts infoPN;have hbel:Below w.heap.size w (w1.alloc (.cells #[pvN x] 40)):=hb.trans ((Zaa w1 _).mono hb.size);have hnew:(w1.alloc (.cells #[pvN x] 40)).heap[w1.heap.size]? =some (.cells #[pvN x] 40 (0,0)):=heap_alloc_new w1 _;have hf:(w1.alloc (.cells #[pvN x] 40)).ownsRow B 40 1 v L.length (L.map pvN):=by
  refine⟨h.own.1,?_⟩;rcases h.own.2 with⟨hv,hl⟩| ⟨g,cap,cur,hv,hg,hh,r⟩
  . exact .inl ⟨hv,hl⟩
  . exact .inr ⟨g,cap,cur,hv,hg,by rw[hbel.block g (Array.getElem?_eq_some_iff.1 hh).1];exact hh,r⟩
 have hn2:NodeB (w1.alloc (.cells #[pvN x] 40)) x.1 x.2 0 fun _=>none:=hn.low (Zaa w1 _)
 refine wpList_append_own _ hgd s y 27 ho B 40 t _ 1 8 Tryz.underlying27 h2 h3 h4 h5 rfl (by decide) v L.length _ hs hf ⟨w1.heap.size,0,none⟩ 1 1 [pvN x] hy rfl ?_ (by intro u hu;simp at hu;rw[hu];rfl) (by simp only[maxLen];omega) (by omega) (by simp;have:=hb.size;omega) fun v' w' h6 h7 _=>?_
 . intro m u hm
   have hm2:m<1:=by simpa using (List.getElem?_eq_some_iff.1 hm).1
   obtain rfl:m=0:=by omega
   rw[Addr.add_lit,cell_of_row _ _ _ _ _ _ hnew,<- hm];rfl
 . have hrow:∀ k,v.ownBlock=some k->B<=k/\∃ cur,(w1.alloc (.cells #[pvN x] 40)).heap[k]? =some (.cells cur 40 (0,0)):=fun k hk2=>by
    rcases hf.2 with⟨hv,_⟩| ⟨g,cap,cur,hv,hg,hh,r⟩
    . rw[hv] at hk2;simp[Value.ownBlock] at hk2
    . rw[hv] at hk2
      obtain rfl:g=k:=by simpa [Value.ownBlock] using hk2
      exact⟨hg,cur,hh⟩
   have hkeep:∀ z:Nat × Nat,NodeB (w1.alloc (.cells #[pvN x] 40)) z.1 z.2 0 (fun _=>none)->NodeB w' z.1 z.2 0 fun _=>none:=fun z hz=>by
    refine hz.keep (h7.block _ hz.lt.1 fun e=>?_) (h7.block _ hz.lt.2 fun e=>?_)
    . obtain⟨_,cur,hc⟩:=hrow _ e.symm
      obtain⟨ao,cap,hr⟩:=hz.row;rw[hr] at hc;simp at hc
    . obtain⟨_,cur,hc⟩:=hrow _ e.symm
      obtain⟨KK,gg,hm,_⟩:=hz.map;exact hm.not_cells hc rfl
   refine hk v' w' ⟨?_,fun z hz=>?_,List.pairwise_append.2 ⟨h.inc,List.pairwise_singleton _ _,fun z hz y hy=>?_⟩⟩ ((hbel.mono hB).trans ((Below.refl _ _).grown h7 (by simp;have:=hb.size;omega) fun k hk=>(hrow k hk).1))
   . rw[List.length_append,List.map_append];exact h6
   . rcases List.mem_append.1 hz with hz|hz
     . obtain⟨z1,z2,z3⟩:=h.nd z hz
       exact⟨z1,z2,hkeep z (z3.low hbel)⟩
     . simp at hz
       subst hz;exact⟨by omega,by omega,hkeep z hn2⟩
   . simp at hy
     subst hy;have:=(h.nd z hz).2.2.lt;omega
theorem new_node{W:World}{b bp:Nat}{cap:Nat}(h:W.heap[b]? =some (.cells #[.int .i64 1,.int .i64 0,.int .i64 0,.map (some bp),.slice none 0 cap] 53 (0,0)))(hm:MpC W bp [] fun _=>.bool true):NodeB W b bp 0 fun _=>none:=
 ⟨⟨none,cap,h⟩,⟨[],_,hm,fun x hx=>absurd hx List.not_mem_nil,fun i=>⟨fun h=>absurd h List.not_mem_nil,fun h=>by cases h⟩,fun i l h=>by cases h⟩,⟨fun i l e=>(by cases e),fun i l e=>(by cases e)⟩,by omega⟩
set_option maxHeartbeats 1000000 in
theorem nodes15_of(w:World):Calls Tryz.prog 10 #[] w fun e w'=>∃ v L,e=.returned v/\NL w' w.heap.size v L/\L.length=4/\Below w.heap.size w w':=by
 go_enter Tryz.func10,Tryz.ntmps10;go_wp2;go_loopw [1,2] (fun v i wr=>∃ L:List (Nat × Nat),L.length<=4/\i=.int .i64 L.length/\NL wr w.heap.size v L/\Below w.heap.size w wr) (fun _ i _=>4-(intOf i).toNat)
 case atStart=>exact⟨[],by simp,rfl,⟨World.ownsRow_nil _ _ _ _,fun x hx=>absurd hx List.not_mem_nil,List.Pairwise.nil⟩,Below.refl _ _⟩
 case round=>
  obtain⟨L,hL,rfl,hn,hb⟩:=hrel;obtain⟨k,hk⟩:∃ k,k=L.length:=⟨_,rfl⟩;have HK:=hid hk;by_cases hlt:k<4
  . rw[<- hk]
    have ek:(k:Int)<4:=by omega
    have HN:=hid hn;have HB:=hid hb;obtain⟨W1,hW1⟩:∃ W1,W1=(wr.alloc (.map #[] 0)).alloc (.cells #[.int .i64 1,.int .i64 0,.int .i64 0,.map (some wr.heap.size),.slice none 0 0] 53):=⟨_,rfl⟩;have hs1:W1.heap.size=wr.heap.size+1+1:=by rw[hW1];simp
    have hb1:Below wr.heap.size wr W1:=by
     have a1:=Zaa wr (.map #[] 0);have a2:=Zaa (wr.alloc (.map #[] 0)) (.cells #[.int .i64 1,.int .i64 0,.int .i64 0,.map (some wr.heap.size),.slice none 0 0] 53);rw[hW1];exact a1.trans (a2.mono (by simp))
    have hn1:NodeB W1 (wr.heap.size+1) wr.heap.size 0 fun _=>none:=by
     have h3:=heap_alloc_new (wr.alloc (.map #[] 0)) (.cells #[.int .i64 1,.int .i64 0,.int .i64 0,.map (some wr.heap.size),.slice none 0 0] 53);rw[show(wr.alloc (.map #[] 0)).heap.size=wr.heap.size+1 by simp] at h3;have b2:=Zaa (wr.alloc (.map #[] 0)) (.cells #[.int .i64 1,.int .i64 0,.int .i64 0,.map (some wr.heap.size),.slice none 0 0] 53);rw[<- hW1] at h3 b2;exact new_node h3 ((MpC.made wr fun _=>.bool true).keep (b2.block _ (by simp)))
    have HS1:=hid hs1;have HB1:=hid hb1;have HN1:=hid hn1;have HW1:=hid hW1;have hmm:=@run_makeMap Tryz.prog;obtain⟨k1,hk1⟩:∃ k1,k1=k+1:=⟨_,rfl⟩;have q2:IntKind.i64.wrap ((k:Int)+1)=(k1:Int):=by rw[IntWalk.i64_in _ (by omega)];omega
    have HK1:Hid (k1=L.length+1/\k1<=4):=hid ⟨by rw[hk1,hk],by omega⟩;have HLT:Hid (k<4):=hid hlt;clear hn hb hL hk hs1 hb1 hn1 hW1 hk1 hlt
    go_wp2_with (at_builtin
                 rw[<- HW1.out];refine HN.out.append HB.out.size HB1.out (by have:=HK1.out;omega) (x:=(wr.heap.size+1,wr.heap.size)) (by simp) (by simp) HN1.out rfl (.tmp 4) (.tmp 8) rfl rfl (by rw[HS1.out];rfl) ?_;intro v5 w5 hn5 hb5)
    go_roundw
    case rel=>exact⟨L ++ [(wr.heap.size+1,wr.heap.size)],by rw[List.length_append,List.length_singleton];have:=HK1.out;omega,by rw[List.length_append,List.length_singleton,<- HK1.out.1],hn5,HB.out.trans hb5⟩
    case measure=>have:=HK1.out;have:=HK.out;have:=HLT.out;clear q2;simp[intOf];omega
  . have HN:=hid hn
    have HB:=hid hb;have ek:¬ (k:Int)<4:=by omega
    have HL4:Hid (L.length=4):=hid (by omega);rw[<- hk];clear hn hb hL hk hlt;go_wp2;go_ret;exact⟨_,rfl,L,HN.out,HL4.out,HB.out⟩
end Go.Proofs.YtedabomlfcghoaaGreat
