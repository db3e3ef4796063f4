/- What the law rests on: part 7. -/
import Derived.Test.YtedabomlfcghoaaGreatKG6
set_option linter.unusedVariables false
namespace Go.Proofs.YtedabomlfcghoaaGreat
set_option maxRecDepth 100000
open Go.RowKit
theorem Zkt(w:World){ops:Array Oper}{rest:List Oper}{o:Oper}{a:Act}{Q:Exit->Act->World->Prop}
 (hg:o.guard=none) (l c:Operand) (hop:o.op=Op.makeSlice 176 l c) (C:Int) (n:Nat) (hl:a.eval l=.int .u64 C) (hc:a.eval c=.int .u64 C) (hC:C=n) (hn:n<=1000000)
 (hK:wpList Tryz.prog ops Q rest (a.put o.dst (.slice (some ⟨w.heap.size,0,none⟩) n n)) (w.alloc (iO (List.replicate n 0) 3))):
 wpList Tryz.prog ops Q (o :: rest) a w:=by
 refine wpList_plain hg fun K hK'=>?_
 obtain⟨i,h2,h3,h4,h5⟩:=info_parts infoI64;subst hC;have hrun:=run_make (P:=Tryz.prog) w 176 3 i (.int .i64 0) Tryz.underlying176 h2 h3 .u64 .u64 n n (by omega) (by omega) (by rw[h5];omega) (by omega);unfold Oper.wp;simp only[Int.toNat_natCast,h4,Nat.mul_one,made_int] at hrun;simp[execOp,hop,hl,hc,hrun,Result.andThen];exact hK' _ _ hK
def RowI(w:World)(g:Nat)(N:List Int)(k:Nat):Prop:=∃ l:List Int,l.length=N.length/\w.heap[g]? =some (iO l 3)/\∀ j,j<k->l.getD j 0=N.getD j 0
theorem RowI.make(w:World)(N:List Int):RowI (w.alloc (iO (List.replicate N.length 0) 3)) w.heap.size N 0:=
 ⟨List.replicate N.length 0,List.length_replicate,heap_alloc_new w _,fun j hj=>absurd hj (Nat.not_lt_zero _)⟩
theorem RowI.row{w:World}{g:Nat}{N:List Int}{k:Nat}(h:RowI w g N k):∃ l:List Int,l.length=N.length/\w.heap[g]? =some (iO l 3):=by
 obtain⟨l,h1,h2,_⟩:=h;exact⟨l,h1,h2⟩
theorem RowI.set{w:World}{g:Nat}{N:List Int}{k:Nat}(h:RowI w g N k)(hk:k<N.length){y:Int}(hy:y=N.getD k 0):RowI (w.setCell ⟨g,k,none⟩ (.int .i64 y)) g N (k+1):=by
 obtain⟨l,h1,h2,h3⟩:=h;refine⟨l.set k y,by rw[List.length_set];exact h1,io_set h2 k y,fun j hj=>?_⟩;by_cases e:j=k
 . subst e
   have hjl:j<l.length:=by omega
   rw[<- hy];simp[List.getD_eq_getElem?_getD,hjl]
 . rw[List.getD_eq_getElem?_getD,List.getElem?_set_ne (by omega),<- List.getD_eq_getElem?_getD]
   exact h3 j (by omega)
theorem RowI.done{w:World}{B g:Nat}{N:List Int}(h:RowI w g N N.length)(hB:B<=g)(hm:N.length<=1000000):IR w B (.slice (some ⟨g,0,none⟩) N.length N.length) N:=by
 obtain⟨l,h1,h2,h3⟩:=h;have e:l=N:=by
  apply List.ext_getElem h1;intro i a b;have:=h3 i b
  simpa [List.getD_eq_getElem?_getD,a,b] using this
 subst e;exact IR.of_row hB h2 (by unfold maxLen;omega)
theorem IR.more9{w:World}{B:Nat}{v:Value}{l:List Int}(h:IR w B v l):IR w 0 v l:=by
 refine⟨h.1,?_⟩;rcases h.2 with h| ⟨g,cap,cur,hv,hg,r⟩
 . exact .inl h
 . exact .inr ⟨g,cap,cur,hv,Nat.zero_le _,r⟩
theorem tReadN_of{w:World}{v:Value}{c:List Int}{N:List Int}(hs:BSl w v c)(hc:c.length=252)(h37:N.length<=37)(hcnt:getV c 8 2=(N.length:Int))(hnum:∀ i,i<N.length->getV c (10+2*i) 2=N.getD i 0)
 (hx:∀ i,i<N.length->0<=N.getD i 0/\N.getD i 0<=65535) (B:Bool) (hB:Zee N=B):
 Calls Tryz.prog 202 #[v] w fun e w'=>∃ u,e=.returned (.tuple #[u,.bool B])/\IR w' 0 u N/\Below w.heap.size w w':=by
 have KN:=hid (fun W u (h:ISc W u N)=>tFormN_of h);rw[hB] at KN;have K8:=hid (pGetW hs (by omega) 8 2 8 2 rfl rfl (by omega) (by omega) (by omega) _ hcnt.symm);have KG:=hid (fun W (hb:Below w.heap.size w W) i (hi:i<N.length) (A:Int) (hA:A=((10+2*i:Nat):Int))=>pGetW (hs.below hb) (by omega) (10+2*i) 2 A 2 hA rfl (by omega) (by omega) (by omega) _ (hnum i hi).symm);have HX:=hid hx;have HR0:=hid (RowI.make w N);have HDN:=hid (fun W (h:RowI W w.heap.size N N.length)=>(h.done (Nat.le_refl _) (by omega)).more9);have HST:=hid (fun W k (h:RowI W w.heap.size N k) hk y hy=>h.set hk (y:=y) hy);have HRW:=hid (fun W k (h:RowI W w.heap.size N k)=>h.row);obtain⟨ao,cap,rfl,_⟩:=hs.shape;obtain⟨n,hn⟩:∃ n,n=N.length:=⟨_,rfl⟩;rw[<- hn] at K8 KG HX HR0 HDN HST HRW h37;rw[hc] at K8 KG |-
 have hbx:=Zaa w (iO (List.replicate n 0) 3);have hn37:¬ (37:Int)<(n:Int):=by omega
 have hnm:n<=1000000:=by omega
 clear hs hc hcnt hnum hx hB hn;go_enter Tryz.func202,Tryz.ntmps202
 go_wp2_with (first
  |(go_at_call 144;(with_reducible refine K8.out.mono ?_);rintro e w2 ⟨rfl,rfl⟩)
  |(at_make;refine Zkt w rfl _ _ rfl (n:Int) n rfl rfl rfl hnm ?_))
 generalize w.alloc (iO (List.replicate n 0) 3)=w1 at hbx HR0 |-
 have HBX:=hid hbx;obtain⟨g,hg⟩:∃ g,g=w.heap.size:=⟨_,rfl⟩;rw[<- hg] at HR0 HDN HST HRW |-
 have HG:=hid hg;clear hbx hg;go_loopw [21] (fun i wr=>∃ k:Nat,k<=n/\i=.int .i64 k/\Hid (RowI wr g N k)/\Hid (Below w.heap.size w wr)) (fun i _=>n-(intOf i).toNat)
 case atStart=>exact⟨0,by omega,rfl,HR0,HBX⟩
 case round=>
  obtain⟨k,hk,rfl,HR,HB⟩:=hrel;clear HR0 HBX K8;by_cases hlt:k<n
  . have KK:=hid (KG.out _ HB.out k hlt (10+(k:Int)*2) (by push_cast;omega))
    obtain⟨x0,x1⟩:=HX.out k hlt;obtain⟨l,hl1,hl2⟩:=HRW.out _ k HR.out;have hst:=HST.out _ k HR.out hlt _ rfl;obtain⟨x,hxx⟩:∃ x,x=N.getD k 0:=⟨_,rfl⟩;rw[<- hxx] at KK x0 x1 hst;have HS1:=hid hst;have hfz:=io_free hl2 k;have hce:∃ z,wr.cell? ⟨g,k,none⟩=some z:=by
     by_cases hkl:k<l.length
     . exact⟨_,Zev hl2 k hkl⟩
     . exact absurd (Nat.lt_of_lt_of_le hlt (Nat.le_of_not_lt fun h=>hkl (by omega))) (Nat.lt_irrefl _)
    obtain⟨z,hz⟩:=hce;have ek:(k:Int)<(n:Int):=by omega
    have hwx:IntKind.i64.wrap x=x:=IntWalk.i64_in _ (by omega);clear hxx hst hl1 hl2;go_wp2_with (go_at_call 144;(with_reducible refine KK.out.mono ?_);rintro e w2 ⟨rfl,rfl⟩)
    go_roundw
    case rel=>exact⟨k+1,by omega,by go_num,HS1,HB.out.trans ((Wrote.setCell wr g k _).below (by rw[HG.out];exact Nat.le_refl _))⟩
    case measure=>simp[intOf];omega
  . obtain rfl:k=n:=by omega
    have KF:=hid (KN.out _ _ (HDN.out _ HR.out).isc);go_wp2_with (go_at_call 211;(with_reducible refine KF.out.mono ?_);rintro e w2 ⟨rfl,rfl⟩)
    go_ret2;exact⟨_,rfl,HDN.out _ HR.out,HB.out⟩
end Go.Proofs.YtedabomlfcghoaaGreat
namespace Go.Proofs.YtedabomlfcghoaaGreat
set_option maxRecDepth 100000
open Go.RowKit
set_option maxHeartbeats 1000000 in
theorem Zhr{w:World}{v:Value}{q:Int}{N:List Int}{L:List (List Int)}(hs:BBSl w v L)(h0:0<L.length)(hh:L.getD 0 []=Zal (Zaz q N))(hN:Zee N=true)(q0:0<=q)(q1:q<4294967296):
 Calls Tryz.prog 175 #[v] w fun e w'=>∃ u,e=.returned (.tuple #[.int .u32 q,u,.bool true])/\IR w' 0 u N/\Below w.heap.size w w':=by
 obtain⟨h37,hx⟩:=Zfh hN;have hl252:(Zaz q N).length<=252:=by rw[Zed];omega
 have hfl:=Zcd _ hl252;obtain⟨ao,cap,rfl,_,hc⟩:=hs.open';obtain⟨b,off,rfl,hb,hcc⟩:=hc h0;obtain⟨u0,hu0,hb0⟩:=hcc 0 h0;rw[hh] at hb0;rw[Nat.add_zero] at hu0;obtain⟨uo,uc,rfl,_⟩:=hb0.shape;have h256:=Zbb _ hl252;rw[h256] at hu0 hb0;have KO:=hid (Zjv hb0 (Zhw _ hl252));rw[head_take q N h37] at KO;have K4:=hid (fun W v (h:BSl W v (Zcq (Zaz q N)))=>pGetW h (by omega) 4 4 4 4 rfl rfl (by omega) (by omega) (by omega) q (head_seq q N q0 q1).symm);have KR:=hid (fun W v (h:BSl W v (Zcq (Zaz q N)))=>tReadN_of h hfl h37 (head_count q N h37) (fun i hi=>head_number q N i hi (hx i hi)) (fun i hi=>⟨(hx i hi).1,by have:=(hx i hi).2;omega⟩) true hN);have KH:=hid (fun W u (h:IR W 0 u N)=>tHead_of h.sl h37 hx q0 q1);have HU0:=hid hb0;generalize Zal (Zaz q N)=HS at KO KH HU0;generalize Zcq (Zaz q N)=HC at KO K4 KR;obtain⟨m,hm⟩:∃ m,m=L.length:=⟨_,rfl⟩;rw[<- hm] at h0 |-
 have hm0:¬ (m:Int)=0:=by omega
 have hm1:((m:Int)==0)=false:=by simpa using hm0
 have hm2:(0:Int)<(m:Int):=by omega
 have hwq:IntKind.u32.wrap q=q:=IntWalk.u32_in _ (by omega);clear hs hc hh hcc hb0 h256 hfl hl252 hx hN h37 q0 q1 hm;go_enter Tryz.func175,Tryz.ntmps175
 go_wp2_with (first
  |(go_at_call 150;(with_reducible refine KO.out.mono ?_);rintro e w2 ⟨v2,rfl,hob2,hb2⟩
    have HV2:=hid hob2.bsl;have HB2:=hid hb2)
  |(go_at_call 144;(with_reducible refine(K4.out _ _ HV2.out).mono ?_);rintro e w3 ⟨rfl,rfl⟩)
  |(go_at_call 202;(with_reducible refine(KR.out _ _ HV2.out).mono ?_);rintro e w4 ⟨v4,rfl,hv4,hb4⟩))
 have HB4:Hid (Below w.heap.size w w4.drew):=hid (Zab (HB2.out.trans (hb4.mono HB2.out.size)) 1);have HV4:Hid (IR w4.drew 0 v4 N):=hid hv4;have e0:w4.drew.cell? ⟨b,off,none⟩=some (.slice uo 256 uc):=(HB4.out.cell (p:=⟨b,off,none⟩) hb).trans hu0;have hz4:b<w4.drew.heap.size:=Nat.lt_of_lt_of_le hb HB4.out.size;have HU4:=hid (HU0.out.below HB4.out);clear hob2 hb2 hv4 hb4 hu0 HU0
 go_region_held3 (fun W=>W.cell? ⟨b,off,none⟩=some (.slice uo 256 uc)) (first|exact f0|exact e0) (first
  |(go_at_call 198;(with_reducible refine(KH.out _ _ HV4.out).mono ?_);rintro e w5 ⟨v5,rfl,hob5,hb5⟩
    have f0:=(hb5.cell (p:=⟨b,off,none⟩) hz4).trans e0;have K6:=hid (Zdm hob5.bsl (HU4.out.below hb5));rw[decide_eq_true (rfl:HS=HS)] at K6;have HB5:=hid (HB4.out.trans (hb5.mono HB4.out.size));have HV5:=hid (HV4.out.below hb5))
  |(go_at_call 99;(with_reducible refine K6.out.mono ?_);rintro e w6 ⟨rfl,rfl⟩))
 go_wp2;go_ret3;exact⟨_,rfl,HV5.out,HB5.out⟩
theorem tSeq_of{w:World}{v:Value}{q:Int}{N:List Int}{L:List (List Int)}(hs:BBSl w v L)(h0:0<L.length)(hh:L.getD 0 []=Zal (Zaz q N))(hN:Zee N=true)(q0:0<=q)(q1:q<4294967296):
 Calls Tryz.prog 137 #[v] w fun e w'=>e=.returned (.tuple #[.int .u32 q,.bool true])/\Below w.heap.size w w':=by
 have K:=hid (Zhr hs h0 hh hN q0 q1);clear hs h0 hh hN q0 q1;go_enter Tryz.func137,Tryz.ntmps137;go_wp2_with (go_at_call 175;(with_reducible refine K.out.mono ?_);rintro e w2 ⟨v2,rfl,hv2,hb2⟩)
 go_ret2;exact⟨rfl,hb2⟩
end Go.Proofs.YtedabomlfcghoaaGreat
namespace Go.Proofs.YtedabomlfcghoaaGreat
set_option maxRecDepth 100000
open Go.RowKit
def Zlj(c:List Int)(n:Nat):List Int:=(List.range n).map fun i=>getV c (10+2*i) 2
theorem numsC_length(c:List Int)(n:Nat):(Zlj c n).length=n:=by simp[Zlj]
theorem numsC_get(c:List Int)(n i:Nat)(hi:i<n):(Zlj c n).getD i 0=getV c (10+2*i) 2:=by
 simp[Zlj,List.getD_eq_getElem?_getD,hi]
def Zbt(b:List Int)(q:Int)(N:List Int):Prop:=Zee N=true/\(0<=q/\q<4294967296)/\b=Zal (Zaz q N)
theorem isHead_facts{b:List Int}{q:Int}{N:List Int}(h:Zbt b q N):Zei b/\getV (b.take 252) 4 4=q/\getV (b.take 252) 8 2=(N.length:Int)/\Zlj (b.take 252) N.length=N:=by
 obtain⟨hN,⟨q0,q1⟩,rfl⟩:=h;obtain⟨h37,hx⟩:=Zfh hN;have hl:(Zaz q N).length<=252:=by rw[Zed];omega
 rw[head_take q N h37];refine⟨Zhw _ hl,head_seq q N q0 q1,head_count q N h37,?_⟩;apply List.ext_getElem (numsC_length _ _);intro i a b;have:=numsC_get (Zcq (Zaz q N)) N.length i b;rw[head_number q N i b (hx i b)] at this
 simpa [List.getD_eq_getElem?_getD,a,b] using this
theorem isHead_one{b:List Int}{q q':Int}{N N':List Int}(h:Zbt b q N)(h':Zbt b q' N'):q=q'/\N=N':=by
 obtain⟨_,a1,a2,a3⟩:=isHead_facts h;obtain⟨_,b1,b2,b3⟩:=isHead_facts h';have e:N.length=N'.length:=by
  have:=a2.symm.trans b2;omega
 exact⟨a1.symm.trans b1,by rw[<- a3,<- b3,e]⟩
theorem get2{c:List Int}(h:Byt c)(a:Nat):0<=getV c a 2/\getV c a 2<=65535:=by
 have:=Zcz (Zbo h) a 2;simp at this;omega
theorem tReadN_big{w:World}{v:Value}{c:List Int}(hs:BSl w v c)(hc:c.length=252)(h:37<getV c 8 2):
 Calls Tryz.prog 202 #[v] w fun e w'=>e=.returned (.tuple #[.slice none 0 0,.bool false])/\w=w':=by
 have K8:=hid (pGetW hs (by omega) 8 2 8 2 rfl rfl (by omega) (by omega) (by omega) _ rfl);obtain⟨x,hx⟩:∃ x,x=getV c 8 2:=⟨_,rfl⟩;rw[<- hx] at K8 h;clear hs hc hx;go_enter Tryz.func202,Tryz.ntmps202;go_wp2_with (go_at_call 144;(with_reducible refine K8.out.mono ?_);rintro e w2 ⟨rfl,rfl⟩)
 go_ret2;exact⟨rfl,rfl⟩
theorem tReadN_any{w:World}{v:Value}{c:List Int}(hs:BSl w v c)(hc:c.length=252):
 Calls Tryz.prog 202 #[v] w fun e w'=>∃ u B,e=.returned (.tuple #[u,.bool B])/\Below w.heap.size w w'/\
  ((B=true/\getV c 8 2<=37/\Zee (Zlj c (getV c 8 2).toNat)=true/\IR w' 0 u (Zlj c (getV c 8 2).toNat))\/
   (B=false/\(getV c 8 2<=37->Zee (Zlj c (getV c 8 2).toNat)=false)/\∃ ao n cap,u=.slice ao n cap)):=by
 by_cases h:getV c 8 2<=37
 . have h0:=(get2 hs.1 8).1
   obtain⟨n,hn⟩:∃ n,n=(getV c 8 2).toNat:=⟨_,rfl⟩;rw[<- hn];have hl:=numsC_length c n;have hbd:∀ i,i<n->0<=(Zlj c n).getD i 0/\(Zlj c n).getD i 0<=65535:=fun i hi=>by rw[numsC_get c n i hi];exact get2 hs.1 _
   refine(tReadN_of hs hc (N:=Zlj c n) (by rw[hl];omega) (by rw[hl];omega) (fun i hi=>(numsC_get c n i (by rw[hl] at hi;exact hi)).symm) (fun i hi=>hbd i (by rw[hl] at hi;exact hi)) _ rfl).mono ?_;rintro e w' ⟨u,rfl,hu,hb⟩;refine⟨u,_,rfl,hb,?_⟩;cases hf:Zee (Zlj c n)
   . obtain⟨ao,cap,hv⟩:=hu.sl.shape
     exact .inr ⟨rfl,fun _=>rfl,ao,_,cap,hv⟩
   . exact .inl ⟨rfl,h,rfl,hu⟩
 . refine(tReadN_big hs hc (by omega)).mono ?_
   rintro e w' ⟨rfl,rfl⟩;exact⟨_,_,rfl,Below.refl _ _,.inr ⟨rfl,fun h'=>absurd h' h,none,0,0,rfl⟩⟩
theorem tReadH_nil{w:World}{cap:Nat}{ao:Option Addr}:Calls Tryz.prog 175 #[.slice ao 0 cap] w fun e w'=>e=.returned (.tuple #[.int .u32 0,.slice none 0 0,.bool false])/\w=w':=by
 go_enter Tryz.func175,Tryz.ntmps175;go_wp2;go_ret3;exact⟨rfl,rfl⟩
theorem tReadH_open{w:World}{v:Value}{L:List (List Int)}(hs:BBSl w v L)(h0:0<L.length)(hh:¬ Zei (L.getD 0 [])):
 Calls Tryz.prog 175 #[v] w fun e w'=>e=.returned (.tuple #[.int .u32 0,.slice none 0 0,.bool false])/\Below w.heap.size w w':=by
 obtain⟨ao,cap,rfl,_,hc⟩:=hs.open';obtain⟨b,off,rfl,hb,hcc⟩:=hc h0;obtain⟨u0,hu0,hb0⟩:=hcc 0 h0;rw[Nat.add_zero] at hu0;obtain⟨uo,uc,rfl,_⟩:=hb0.shape;have KO:=hid (pOpen_not hb0 hh);obtain⟨y,hy⟩:∃ y,y=(L.getD 0 []).length:=⟨_,rfl⟩;rw[<- hy] at KO hu0;obtain⟨m,hm⟩:∃ m,m=L.length:=⟨_,rfl⟩;rw[<- hm] at h0 |-
 have hm0:¬ (m:Int)=0:=by omega
 have hm1:((m:Int)==0)=false:=by simpa using hm0
 have hm2:(0:Int)<(m:Int):=by omega
 clear hs hc hh hcc hb0 hm hy;go_enter Tryz.func175,Tryz.ntmps175;go_wp2_with (go_at_call 150;(with_reducible refine KO.out.mono ?_);rintro e w2 ⟨rfl,hb2⟩)
 go_ret3;exact⟨rfl,hb2⟩
set_option maxHeartbeats 1000000 in
theorem tReadH_sealed{w:World}{v:Value}{L:List (List Int)}(hs:BBSl w v L)(h0:0<L.length)(hh:Zei (L.getD 0 []))(hno:∀ q N,¬ Zbt (L.getD 0 []) q N):
 Calls Tryz.prog 175 #[v] w fun e w'=>e=.returned (.tuple #[.int .u32 0,.slice none 0 0,.bool false])/\Below w.heap.size w w':=by
 obtain⟨ao,cap,rfl,_,hc⟩:=hs.open';obtain⟨b,off,rfl,hb,hcc⟩:=hc h0;obtain⟨u0,hu0,hb0⟩:=hcc 0 h0;rw[Nat.add_zero] at hu0;obtain⟨uo,uc,rfl,_⟩:=hb0.shape;have KO:=hid (Zjv hb0 hh);have hl:=take_len hh;have h256:(L.getD 0 []).length=256:=hh.1;have hby:=hb0.1;rw[h256] at hu0 hb0 KO;have HU0:=hid hb0;generalize L.getD 0 []=bb at KO hl hno HU0 hby;obtain⟨c,hcd⟩:∃ c,c=bb.take 252:=⟨_,rfl⟩;have hbc:Byt c:=by rw[hcd];exact Zbs hby 252
 rw[<- hcd] at KO hl;have hq:=Zcz (Zbo hbc) 4 4;have q0:=hq.1;have q1:getV c 4 4<4294967296:=by simpa using hq.2
 have K4:=hid (fun W v (h:BSl W v c)=>pGetW h (by omega) 4 4 4 4 rfl rfl (by omega) (by omega) (by omega) _ rfl);have KR:=hid (fun W v (h:BSl W v c)=>tReadN_any h hl);obtain⟨q,hqd⟩:∃ q,q=getV c 4 4:=⟨_,rfl⟩;rw[<- hqd] at q0 q1 K4;obtain⟨N,hN⟩:∃ N,N=Zlj c (getV c 8 2).toNat:=⟨_,rfl⟩;rw[<- hN] at KR;have KH:=hid (fun(hf:Zee N=true) W u (h:IR W 0 u N)=>tHead_of h.sl (Zfh hf).1 (Zfh hf).2 q0 q1);have HNE:=hid (fun(hf:Zee N=true)=>show ¬ Zal (Zaz q N)=bb from fun e=>hno q N ⟨hf,⟨q0,q1⟩,e.symm⟩);generalize Zal (Zaz q N)=HS at KH HNE;obtain⟨m,hm⟩:∃ m,m=L.length:=⟨_,rfl⟩;rw[<- hm] at h0 |-
 have hm0:¬ (m:Int)=0:=by omega
 have hm1:((m:Int)==0)=false:=by simpa using hm0
 have hm2:(0:Int)<(m:Int):=by omega
 have hwq:IntKind.u32.wrap q=q:=IntWalk.u32_in _ (by omega);clear hs hc hh hcc hb0 h256 hl hno hby hcd hbc hq hqd hN hm q0 q1;go_enter Tryz.func175,Tryz.ntmps175
 go_wp2_with (first
  |(go_at_call 150;(with_reducible refine KO.out.mono ?_);rintro e w2 ⟨v2,rfl,hob2,hb2⟩
    have HV2:=hid hob2.bsl;have HB2:=hid hb2)
  |(go_at_call 144;(with_reducible refine(K4.out _ _ HV2.out).mono ?_);rintro e w3 ⟨rfl,rfl⟩)
  |(go_at_call 202;(with_reducible refine(KR.out _ _ HV2.out).mono ?_);rintro e w4 ⟨v4,B4,rfl,hb4,hcase⟩
    have HCASE:=hid hcase;clear hcase))
 have HB4:Hid (Below w.heap.size w w4.drew):=hid (Zab (HB2.out.trans (hb4.mono HB2.out.size)) 1);have HB44:Hid (Below w.heap.size w w4):=hid (HB2.out.trans (hb4.mono HB2.out.size));clear hob2 hb2 hb4;rcases HCASE.out with⟨rfl,_,hf,hv4⟩| ⟨rfl,_,ao4,n4,cap4,rfl⟩
 . have HF:=hid hf
   have HV4:Hid (IR w4.drew 0 v4 N):=hid hv4;have e0:w4.drew.cell? ⟨b,off,none⟩=some (.slice uo 256 uc):=(HB4.out.cell (p:=⟨b,off,none⟩) hb).trans hu0;have hz4:b<w4.drew.heap.size:=Nat.lt_of_lt_of_le hb HB4.out.size;have HU4:=hid (HU0.out.below HB4.out);clear hu0 HU0 hf hv4 HCASE HB44
   go_region_held3 (fun W=>W.cell? ⟨b,off,none⟩=some (.slice uo 256 uc)) (first|exact f0|exact e0) (first
    |(go_at_call 198;(with_reducible refine(KH.out HF.out _ _ HV4.out).mono ?_);rintro e w5 ⟨v5,rfl,hob5,hb5⟩
      have f0:=(hb5.cell (p:=⟨b,off,none⟩) hz4).trans e0;have K6:=hid (Zdm hob5.bsl (HU4.out.below hb5));rw[decide_eq_false (HNE.out HF.out)] at K6;have HB5:=hid (HB4.out.trans (hb5.mono HB4.out.size)))
    |(go_at_call 99;(with_reducible refine K6.out.mono ?_);rintro e w6 ⟨rfl,rfl⟩))
   go_wp2;go_ret3;exact⟨rfl,HB5.out⟩
 . clear HCASE HB4
   go_quiet (fail)
   go_wp2;go_ret3;exact⟨rfl,Zab HB44.out nq⟩
theorem tReadH_any{w:World}{v:Value}{L:List (List Int)}(hs:BBSl w v L):
 Calls Tryz.prog 175 #[v] w fun e w'=>Below w.heap.size w w'/\
  ((∃ q N u,0<L.length/\Zbt (L.getD 0 []) q N/\e=.returned (.tuple #[.int .u32 q,u,.bool true])/\IR w' 0 u N)\/
   ((∀ q N,¬ (0<L.length/\Zbt (L.getD 0 []) q N))/\e=.returned (.tuple #[.int .u32 0,.slice none 0 0,.bool false]))):=by
 by_cases h0:0<L.length
 . by_cases hd:∃ q N,Zbt (L.getD 0 []) q N
   . obtain⟨q,N,hq⟩:=hd
     refine(Zhr hs h0 hq.2.2 hq.1 hq.2.1.1 hq.2.1.2).mono ?_;rintro e w' ⟨u,rfl,hu,hb⟩;exact⟨hb,.inl ⟨q,N,u,h0,hq,rfl,hu⟩⟩
   . have hno:∀ q N,¬ Zbt (L.getD 0 []) q N:=fun q N h=>hd ⟨q,N,h⟩
     by_cases hse:Zei (L.getD 0 [])
     . refine(tReadH_sealed hs h0 hse hno).mono ?_
       rintro e w' ⟨rfl,hb⟩;exact⟨hb,.inr ⟨fun q N h=>hno q N h.2,rfl⟩⟩
     . refine(tReadH_open hs h0 hse).mono ?_
       rintro e w' ⟨rfl,hb⟩;exact⟨hb,.inr ⟨fun q N h=>hno q N h.2,rfl⟩⟩
 . obtain⟨ao,cap,rfl,_⟩:=hs.shape
   have e:L.length=0:=by omega
   rw[e];refine tReadH_nil.mono ?_;rintro e w' ⟨rfl,rfl⟩;exact⟨Below.refl _ _,.inr ⟨fun q N h=>absurd h.1 (by omega),rfl⟩⟩
theorem tSeq_any{w:World}{v:Value}{L:List (List Int)}(hs:BBSl w v L):
 Calls Tryz.prog 137 #[v] w fun e w'=>Below w.heap.size w w'/\
  ((∃ q N,0<L.length/\Zbt (L.getD 0 []) q N/\e=.returned (.tuple #[.int .u32 q,.bool true]))\/
   ((∀ q N,¬ (0<L.length/\Zbt (L.getD 0 []) q N))/\e=.returned (.tuple #[.int .u32 0,.bool false]))):=by
 by_cases h:∃ q N,0<L.length/\Zbt (L.getD 0 []) q N
 . obtain⟨q,N,h0,hq⟩:=h
   refine(tSeq_of hs h0 hq.2.2 hq.1 hq.2.1.1 hq.2.1.2).mono ?_;rintro e w' ⟨rfl,hb⟩;exact⟨hb,.inl ⟨q,N,h0,hq,rfl⟩⟩
 . have hno:∀ q N,¬ (0<L.length/\Zbt (L.getD 0 []) q N):=fun q N hh=>h ⟨q,N,hh⟩
   have K:Hid (Calls Tryz.prog 175 #[v] w fun e w'=>e=.returned (.tuple #[.int .u32 0,.slice none 0 0,.bool false])/\Below w.heap.size w w'):=hid ((tReadH_any hs).mono fun e w' ⟨hb,hc⟩=>by
    rcases hc with⟨q,N,u,h0,hq,_⟩| ⟨_,he⟩
    . exact absurd ⟨h0,hq⟩ (hno q N)
    . exact⟨he,hb⟩)
   have HNO:=hid hno;clear hs h hno;go_enter Tryz.func137,Tryz.ntmps137;go_wp2_with (go_at_call 175;(with_reducible refine K.out.mono ?_);rintro e w2 ⟨rfl,hb2⟩)
   go_ret2;exact⟨hb2,.inr ⟨HNO.out,rfl⟩⟩
theorem run_slice_bb(w:World)(b off n cap l h:Nat)(h1:l<=h)(h2:h<=cap)(h3:l<cap):
 (Instr.sliceAt 96 (.slice (some ⟨b,off,none⟩) n cap) (some (.int .i64 (l:Int))) (some (.int .i64 (h:Int))) none).run Tryz.prog w=.ok (.slice (some ⟨b,off+l,none⟩) (h-l) (cap-l)) w:=by
 obtain⟨i,g2,g3,g4,g5⟩:=info_parts infoBy;have hne:cap≠l:=by omega
 have ee:Tryz.prog.elem 96=30:=by kernel_rfl
 have hs:(sizeOf 30).run Tryz.prog w=.ok 1 w:=by simp[sizeOf,typeInfo,g2,g4]
 rw[run_sliceAt_slice w 96 _ _ _ _ (by rw[ee];exact Tryz.underlying96),run_slice_lh w 96 _ n cap (by rw[ee];exact Tryz.underlying96) .i64 .i64 (l:Int) (h:Int) (by omega) (by omega) (by omega),ee,hs];simp[sliced,hne,Addr.add_lit]
theorem Zhn{w:World}{ops:Array Oper}{rest:List Oper}{o:Oper}{a:Act}{Q:Exit->Act->World->Prop}(hgd:o.guard=none)(x lo hi:Operand)(ho:o.op=.slice 96 x (some lo) (some hi) none)
 (b off n cap:Nat) (hx:a.eval x=.slice (some ⟨b,off,none⟩) n cap) (L H:Int) (hl:a.eval lo=.int .i64 L) (hh:a.eval hi=.int .i64 H) (l h m:Nat) (hm:h-l=m) (hL:L=l) (hH:H=h) (h1:l<=h) (h2:h<=cap) (h3:l<cap)
 (hK:wpList Tryz.prog ops Q rest (a.put o.dst (.slice (some ⟨b,off+l,none⟩) m (cap-l))) w):wpList Tryz.prog ops Q (o :: rest) a w:=by
 subst hL hH hm;refine wpList_plain hgd fun K hK'=>?_
 unfold Oper.wp execOp;simp only[ho,hx,hl,hh,Option.map_some,Option.map_none,run_slice_bb w b off n cap l h h1 h2 h3,Sem.run_bind,Sem.run_pure,Result.andThen_ok];exact hK' _ _ hK
theorem BBSl.mid{w:World}{b off cap:Nat}{L:List (List Int)}(h:BBSl w (.slice (some ⟨b,off,none⟩) L.length cap) L)(lo m:Nat)(hm:lo+m<=L.length)(M:List (List Int))(hM:(L.drop lo).take m=M):BBSl w (.slice (some ⟨b,off+lo,none⟩) m (cap-lo)) M:=by
 have hlen:((L.drop lo).take m).length=m:=by simp;omega
 rw[hM] at hlen;rcases h with⟨hv,_⟩| ⟨a',c',hv,hcap,hc⟩
 . simp at hv
 . obtain⟨rfl,rfl⟩:(⟨b,off,none⟩:Addr)=a'/\cap=c':=⟨Option.some.inj (Value.slice.inj hv).1,(Value.slice.inj hv).2.2⟩
   refine .inr ⟨⟨b,off+lo,none⟩,cap-lo,by rw[hlen],by omega,fun j hj=>?_⟩;rw[hlen] at hj;obtain⟨h1,h2,u,h3,h4⟩:=hc (lo+j) (by omega);refine⟨h1,rfl,u,?_,?_⟩
   . show w.cell? ⟨b,off+lo+j,none⟩=_
     rw[Nat.add_assoc];exact h3
   . have e:M.getD j []=L.getD (lo+j) []:=by
      rw[<- hM];simp[List.getD_eq_getElem?_getD,hj]
     rw[e];exact h4
theorem Zeb:(Tryz.prog.info? 183).map (·.size)=some 3:=by kernel_rfl
theorem Zag{ops:Array Oper}{rest:List Oper}{o:Oper}{a:Act}{w:World}{Q:Exit->Act->World->Prop}(hgd:o.guard=none)(ty:TypeId)(hi:(Tryz.prog.info? ty).map (·.size)=some 3)(x y:Operand)(ho:o.op=.store ty x y)
 (g:Nat) (hx:a.eval x=.pointer (some ⟨g,0,none⟩)) (p q r p' q' r':Value) (hy:a.eval y=.agg #[p,q,r]) (hp:p.oneCell'=true) (hq:q.oneCell'=true) (hr:r.oneCell'=true) (T:TypeId) (hg:w.heap[g]? =some (.cells #[p',q',r'] T (0,0)))
 (h:∀ w',Wrote w w' g->w'.heap[g]? =some (.cells #[p,q,r] T (0,0))->wpList Tryz.prog ops Q rest (a.put o.dst undef) w'):wpList Tryz.prog ops Q (o :: rest) a w:=
 wpList_store_row hgd ty x y ho g #[p,q,r] hx hy T _ hg hi rfl (by simp[hp,hq,hr]) (h _ (Wrote.setRow _ _ _) (setRow_heap _ _ _ _ _ _ hg))
theorem Zbj{fn:Func}{p u:Tmp}{ty:TypeId}{fs}(h:fn.results=#[.cell p ty,.tmp u])(hu:Tryz.prog.underlying ty=some (.struct fs))(hi:(Tryz.prog.info? ty).map (·.size)=some 3)
 (tmps:Array Value) (w:World) (g:Nat) (T:TypeId) (a b c x:Value) (hp:tmps.getD p undef=.pointer (some ⟨g,0,none⟩)) (hg:w.heap[g]? =some (.cells #[a,b,c] T (0,0))) (hx:tmps.getD u undef=x):
 (results fn tmps).run Tryz.prog w=.ok (.tuple #[.agg #[a,b,c],x]) w:=by
 rw[results_cell_tmp h,hp,hx];simp only[asAddr,Sem.run_pure,Result.andThen_ok];rw[run_loadVar_row w g T ty _ (0,0) _ hg hu rfl (by rw[hi];rfl)];rfl
theorem hold9{w w1:World}{g:Nat}{o:Obj}(h:w.heap[g]? =some o)(hb:Below w.heap.size w w1):w1.heap[g]? =some o:=(hb.block _ (Array.getElem?_eq_some_iff.1 h).1).trans h
theorem IR.wrote{w w':World}{B g:Nat}{v:Value}{l:List Int}(h:IR w B v l)(hw:Wrote w w' g){cur:Array Value}{T:TypeId}(hg:w.heap[g]? =some (.cells cur T (0,0)))(hT:T≠3):IR w' B v l:=by
 refine⟨h.1,?_⟩;rcases h.2 with h| ⟨g',cap,cur',hv,hB,hh,r⟩
 . exact .inl h
 . refine .inr ⟨g',cap,cur',hv,hB,?_,r⟩
   rw[hw.2.2.2.2 g' (fun e=>by
    subst e;rw[hg] at hh
    injection hh with hh
    injection hh with _ h4
    exact hT h4)]
   exact hh
theorem BElt.wrote{w w':World}{B g:Nat}{x:Value}{l:List Int}(h:BElt w B x l)(hw:Wrote w w' g)(hB:B<=g){cur:Array Value}{T:TypeId}(hg:w.heap[g]? =some (.cells cur T (0,0)))(hT:T≠5):BElt w' B x l:=by
 by_cases h0:0<l.length
 . obtain⟨b,off,cap,rfl,hb,hor⟩:=h.2 h0
   have hne:b≠g:=fun e=>by
    subst e;rcases hor with h3| ⟨cur',h3⟩
    . omega
    . rw[h3] at hg
      injection hg with hg
      injection hg with _ h4
      exact hT h4.symm
   have hbk:=hw.2.2.2.2 b hne;refine⟨⟨h.1.1,?_⟩,fun _=>⟨b,off,cap,rfl,by rw[hw.2.2.2.1];exact hb,hor.elim .inl fun⟨cur,hc⟩=>.inr ⟨cur,by rw[hbk];exact hc⟩⟩⟩;rcases h.1.2 with⟨hv,_⟩| ⟨a,cap',hv,hcap,hc⟩
   . simp at hv
   . obtain⟨rfl,rfl⟩:a=⟨b,off,none⟩/\cap=cap':=⟨(Option.some.inj (Value.slice.inj hv).1).symm,(Value.slice.inj hv).2.2⟩
     refine .inr ⟨_,cap,rfl,hcap,fun j hj=>?_⟩;obtain⟨h1,h2,h3⟩:=hc j hj;exact⟨by rw[hw.2.2.2.1];exact h1,rfl,by rw[World.cell?_of_block (a:=⟨b,off+j,none⟩) hbk];exact h3⟩
 . obtain rfl:l=[]:=List.eq_nil_of_length_eq_zero (by omega)
   refine⟨⟨Zfb,?_⟩,fun h=>absurd h h0⟩;rcases h.1.2 with h| ⟨a,cap,hv,hcap,_⟩
   . exact .inl h
   . exact .inr ⟨a,cap,hv,hcap,fun j hj=>absurd hj (Nat.not_lt_zero _)⟩
theorem BBR.wrote{w w':World}{B g:Nat}{v:Value}{L:List (List Int)}(h:BBR w B v L)(hw:Wrote w w' g)(hB:B<=g){cur:Array Value}{T:TypeId}(hg:w.heap[g]? =some (.cells cur T (0,0)))(hT:T≠5)(hT2:T≠30):BBR w' B v L:=by
 obtain⟨vs,hl,hr,ho⟩:=h;refine⟨vs,hl,fun j hj=>(hr j hj).wrote hw hB hg hT,ho.1,?_⟩;rcases ho.2 with h| ⟨g',cap,cur',hv,hB',hh,r⟩
 . exact .inl h
 . refine .inr ⟨g',cap,cur',hv,hB',?_,r⟩
   rw[hw.2.2.2.2 g' (fun e=>by
    subst e;rw[hg] at hh
    injection hh with hh
    injection hh with _ h4
    exact hT2 h4)]
   exact hh
set_option maxHeartbeats 1000000 in
theorem tUnpack_own{w:World}{v:Value}{q:Int}{N:List Int}{D L:List (List Int)}(hs:BBSl w v L)(hL:L.length<=1000000)(hlen:N.length+2<=L.length)(hh:L.getD 0 []=Zal (Zaz q N))(hz:L.getD (L.length-1) []=Zal (endL q))
 (hD:(L.drop 1).take N.length=D) (hw:whole D=true) (hN:Zee N=true) (q0:0<=q) (q1:q<4294967296):
 Calls Tryz.prog 173 #[v] w fun e w'=>∃ vN vD,e=.returned (.tuple #[.agg #[.int .u32 q,vN,vD],.bool true])/\IR w' 0 vN N/\BBR w' 0 vD D/\Below w.heap.size w w':=by
 have hDl:D.length=N.length:=by rw[<- hD];simp;omega
 have h37:=(Zfh hN).1;have hbx:=Zaa w (.cells #[.int .u32 0,.slice none 0 0,.slice none 0 0] 183);have hnx:=heap_alloc_new w (.cells #[.int .u32 0,.slice none 0 0,.slice none 0 0] 183);have KR:=hid (fun W (hb:Below w.heap.size w W)=>Zhr (hs.below hb) (by omega) hh hN q0 q1);have KE:=hid (fun W=>tEnd_of W q0 q1);obtain⟨ao,cap,rfl,hcap,hc⟩:=hs.open';obtain⟨b,off,rfl,hb,hcc⟩:=hc (by omega);obtain⟨u0,hu0,hb0⟩:=hcc (L.length-1) (by omega);rw[hz] at hb0;have h256:=Zbb (endL q) (by rw[Zjj];omega);obtain⟨uo,uc,rfl,_⟩:=hb0.shape;rw[h256] at hu0 hb0;have hmid:=hs.mid 1 N.length (by omega) D hD;have KW:=hid (fun W (hb:Below w.heap.size w W)=>tWhole_of (hmid.below hb) (by omega));rw[hw] at KW;have KC:=hid (fun W (hb:Below w.heap.size w W)=>tCopies_of (hmid.below hb) (by omega) (fun j=>by
  by_cases hj:j<D.length
  . rw[(whole_iff D).1 hw j hj];omega
  . rw[List.getD_eq_getElem?_getD,List.getElem?_eq_none (by omega)];exact Nat.zero_le _) 0 (Nat.zero_le _))
 have HU0:=hid hb0;generalize Zal (endL q)=EB at KE HU0;have HNS:=hid (fun W vN (h:IR W 0 vN N)=>h.isc.2);obtain⟨n,hn⟩:∃ n,n=N.length:=⟨_,rfl⟩;obtain⟨m,hm⟩:∃ m,m=L.length:=⟨_,rfl⟩;rw[<- hm] at hlen hcap hu0 hL KR |-
 rw[<- hn] at hlen h37 KW KC hDl HNS;have HDL:=hid hDl;have ew:IntKind.i64.wrap ((m:Int)-1)=(m:Int)-1:=IntWalk.i64_in _ (by omega);have ew2:IntKind.i64.wrap ((n:Int)+2)=(n:Int)+2:=IntWalk.i64_in _ (by omega);have e1:(0:Int)<=(m:Int)-1:=by omega
 have e2:((m:Int)-1).toNat=m-1:=by omega
 have e3:(m:Int)-1<(m:Int):=by omega
 have e4:¬ (m:Int)<(n:Int)+2:=by omega
 have e5:decide ((m:Int)<(n:Int)+2)=false:=decide_eq_false e4;have e6:m-1<m:=by omega
 have e7:(1:Int)<=(m:Int):=by omega
 have e8:1<=m:=by omega
 have e9:0<m:=by omega
 have e10:(0:Int)<(m:Int):=by omega
 have HE1:Hid (1+n-1=n):=hid (by omega);have HE2:Hid ((1:Int)+(n:Int)=((1+n:Nat):Int)):=hid (by push_cast;rfl);have HE3:Hid (1<=1+n/\1+n<=cap/\1<cap):=hid (by omega);clear hs hh hz hD hw hN q0 q1 hc hcc hb0 h256 hmid hn hm hDl h37;go_enter Tryz.func173,Tryz.ntmps173;go_upto_region 1 with(fail)
 have hzu:w.heap.size<(w.alloc (.cells #[.int .u32 0,.slice none 0 0,.slice none 0 0] 183)).heap.size:=by simp
 generalize w.alloc (.cells #[.int .u32 0,.slice none 0 0,.slice none 0 0] 183)=w1 at hbx hnx hzu |-
 go_wp2_with (go_at_call 175;(with_reducible refine(KR.out _ hbx).mono ?_);rintro e w2 ⟨v2,rfl,hv2,hb2⟩
              obtain⟨no,nc,rfl,_⟩:=HNS.out _ _ hv2)
 have HB2:Hid (Below w1.heap.size w1 w2.drew):=hid (Zab hb2 1);have HV2:Hid (IR w2.drew 0 (.slice no n nc) N):=hid hv2;have HBX:=hid hbx;have HNX:=hid hnx;have e0:w2.drew.cell? ⟨b,off+(m-1),none⟩=some (.slice uo 256 uc):=((hbx.trans (HB2.out.mono hbx.size)).cell (p:=⟨b,off+(m-1),none⟩) hb).trans hu0;have HU2:=hid (HU0.out.below (hbx.trans (HB2.out.mono hbx.size)));have hz2:b<w2.drew.heap.size:=Nat.lt_of_lt_of_le hb (hbx.trans (HB2.out.mono hbx.size)).size;clear hv2 hb2 hbx hnx hu0 hb HU0
 go_region_held3 (fun W=>W.cell? ⟨b,off+(m-1),none⟩=some (.slice uo 256 uc)) (first|exact f0|exact e0) (first
  |(go_at_call 200;(with_reducible refine(KE.out _).mono ?_);rintro e w5 ⟨v5,rfl,hob5,hb5⟩
    have f0:=(hb5.cell (p:=⟨b,off+(m-1),none⟩) hz2).trans e0;have K6:=hid (Zdm (HU2.out.below hb5) hob5.bsl);rw[decide_eq_true (rfl:EB=EB)] at K6;have HB5:=hid (HB2.out.trans (hb5.mono HB2.out.size));have HV5:=hid (HV2.out.below hb5);clear hob5)
  |(go_at_call 99;(with_reducible refine K6.out.mono ?_);rintro e w6 ⟨rfl,rfl⟩))
 have HB05:=hid (HBX.out.trans (HB5.out.mono HBX.out.size));have K7:=hid (KW.out _ HB05.out);have K8:=hid (KC.out _ HB05.out);clear ew ew2 e1 e2 e3 e4 e5 e6 e7 e8 e9 e10 e0 f0 hb5 KW KC KE KR K6
 go_wp2_with (first
  |(with_reducible refine Zhn rfl (.tmp 37) (.const (.int .i64 1)) (.tmp 40) rfl b off m cap rfl 1 (1+(n:Int)) rfl rfl 1 (1+n) n HE1.out rfl HE2.out HE3.out.1 HE3.out.2.1 HE3.out.2.2 ?_)
  |(go_at_call 201;(with_reducible refine K7.out.mono ?_);rintro e w7 ⟨rfl,rfl⟩)
  |(go_at_call 199;(with_reducible refine K8.out.mono ?_);rintro e w8 ⟨v8,rfl,hv8,hb8⟩
    obtain⟨co,cc,rfl,_⟩:=hv8.sl.shape;rw[HDL.out] at hv8 |-
    have HV8:=hid hv8;have HN8:=hid (HV5.out.below hb8);have hr8:=hold9 HNX.out (HB5.out.trans (hb8.mono HB5.out.size));have HB8:=hid (HB05.out.trans (hb8.mono HB05.out.size));clear hv8)
  |(with_reducible refine Zag rfl 183 Zeb (.tmp 2) (.tmp 50) rfl w.heap.size rfl _ _ _ _ _ _ rfl rfl rfl rfl _ hr8 ?_;intro w9 hw9 hr9))
 refine bodyPost_ret (Zbj rfl Tryz.underlying183 Zeb _ _ w.heap.size _ _ _ _ _ rfl hr9 rfl) rfl ⟨_,_,rfl,?_,?_,HB8.out.trans (hw9.below (Nat.le_refl _))⟩
 . exact HN8.out.wrote hw9 hr8 (by decide)
 . exact HV8.out.wrote hw9 (Nat.zero_le _) hr8 (by decide) (by decide)
def Zkd(L:List (List Int))(q:Int)(N:List Int)(D:List (List Int)):Prop:=
 (0<L.length/\Zbt (L.getD 0 []) q N)/\N.length+2<=L.length/\L.getD (L.length-1) []=Zal (endL q)/\(L.drop 1).take N.length=D/\whole D=true
def NoTxn(w:World)(e:Ending)(w':World):Prop:=e=.returned (.tuple #[.agg #[.int .u32 0,.slice none 0 0,.slice none 0 0],.bool false])/\Below w.heap.size w w'
theorem tUnpack_head{w:World}{v:Value}{L:List (List Int)}(hs:BBSl w v L)(hno:∀ q N,¬ (0<L.length/\Zbt (L.getD 0 []) q N)):Calls Tryz.prog 173 #[v] w (NoTxn w):=by
 have hbx:=Zaa w (.cells #[.int .u32 0,.slice none 0 0,.slice none 0 0] 183);have hnx:=heap_alloc_new w (.cells #[.int .u32 0,.slice none 0 0,.slice none 0 0] 183);have KR:Hid (∀ W,Below w.heap.size w W->Calls Tryz.prog 175 #[v] W fun e w'=>e=.returned (.tuple #[.int .u32 0,.slice none 0 0,.bool false])/\Below W.heap.size W w'):=hid fun W hb=>(tReadH_any (hs.below hb)).mono fun e w' ⟨hb,hc⟩=>by
  rcases hc with⟨q,N,u,h0,hq,_⟩| ⟨_,he⟩
  . exact absurd ⟨h0,hq⟩ (hno q N)
  . exact⟨he,hb⟩
 obtain⟨ao,cap,rfl,_⟩:=hs.shape;generalize L.length=m at KR |-
 clear hs hno;go_enter Tryz.func173,Tryz.ntmps173;go_upto_region 1 with(fail)
 generalize w.alloc (.cells #[.int .u32 0,.slice none 0 0,.slice none 0 0] 183)=w1 at hbx hnx |-
 have HBX:=hid hbx;have HNX:=hid hnx;clear hnx;go_wp2_with (go_at_call 175;(with_reducible refine(KR.out _ hbx).mono ?_);rintro e w2 ⟨rfl,hb2⟩)
 have HB2:=hid hb2;clear hb2 hbx;go_quiet (fail)
 have hr2:(w2.drewN nq).heap[w.heap.size]? =some (.cells #[.int .u32 0,.slice none 0 0,.slice none 0 0] 183 (0,0)):=hold9 HNX.out (Zab HB2.out nq);go_wp2_with (with_reducible refine Zag rfl 183 Zeb (.tmp 2) (.tmp 36) rfl w.heap.size rfl _ _ _ _ _ _ rfl rfl rfl rfl _ hr2 ?_;intro w9 hw9 hr9)
 refine bodyPost_ret (Zbj rfl Tryz.underlying183 Zeb _ _ w.heap.size _ _ _ _ _ rfl hr9 rfl) rfl ⟨rfl,?_⟩;exact(Zab (HBX.out.trans (HB2.out.mono HBX.out.size)) nq).trans (hw9.below (Nat.le_refl _))
theorem tUnpack_short{w:World}{v:Value}{q:Int}{N:List Int}{L:List (List Int)}(hs:BBSl w v L)(h0:0<L.length)(hq:Zbt (L.getD 0 []) q N)(hlen:¬ N.length+2<=L.length):Calls Tryz.prog 173 #[v] w (NoTxn w):=by
 have hbx:=Zaa w (.cells #[.int .u32 0,.slice none 0 0,.slice none 0 0] 183);have hnx:=heap_alloc_new w (.cells #[.int .u32 0,.slice none 0 0,.slice none 0 0] 183);have KR:=hid (fun W (hb:Below w.heap.size w W)=>Zhr (hs.below hb) h0 hq.2.2 hq.1 hq.2.1.1 hq.2.1.2);have h37:=(Zfh hq.1).1;have HNS:=hid (fun W vN (h:IR W 0 vN N)=>h.isc.2);obtain⟨ao,cap,rfl,_⟩:=hs.shape;obtain⟨n,hn⟩:∃ n,n=N.length:=⟨_,rfl⟩;obtain⟨m,hm⟩:∃ m,m=L.length:=⟨_,rfl⟩;rw[<- hm] at hlen KR |-
 rw[<- hn] at hlen h37 HNS;have e1:(m:Int)<(n:Int)+2:=by omega
 have e2:decide ((m:Int)<(n:Int)+2)=true:=decide_eq_true e1;have ew2:IntKind.i64.wrap ((n:Int)+2)=(n:Int)+2:=IntWalk.i64_in _ (by omega);clear hs h0 hq hn hm;go_enter Tryz.func173,Tryz.ntmps173;go_upto_region 1 with(fail)
 generalize w.alloc (.cells #[.int .u32 0,.slice none 0 0,.slice none 0 0] 183)=w1 at hbx hnx |-
 have HBX:=hid hbx;have HNX:=hid hnx;clear hnx
 go_wp2_with (go_at_call 175;(with_reducible refine(KR.out _ hbx).mono ?_);rintro e w2 ⟨v2,rfl,hv2,hb2⟩
              obtain⟨no,nc,rfl,_⟩:=HNS.out _ _ hv2)
 have HB2:=hid hb2;clear hb2 hbx hv2;go_quiet (fail)
 have hr2:(w2.drewN nq).heap[w.heap.size]? =some (.cells #[.int .u32 0,.slice none 0 0,.slice none 0 0] 183 (0,0)):=hold9 HNX.out (Zab HB2.out nq);go_wp2_with (with_reducible refine Zag rfl 183 Zeb (.tmp 2) (.tmp 36) rfl w.heap.size rfl _ _ _ _ _ _ rfl rfl rfl rfl _ hr2 ?_;intro w9 hw9 hr9)
 refine bodyPost_ret (Zbj rfl Tryz.underlying183 Zeb _ _ w.heap.size _ _ _ _ _ rfl hr9 rfl) rfl ⟨rfl,?_⟩;exact(Zab (HBX.out.trans (HB2.out.mono HBX.out.size)) nq).trans (hw9.below (Nat.le_refl _))
set_option maxHeartbeats 1000000 in
theorem tUnpack_rest{w:World}{v:Value}{q:Int}{N:List Int}{L:List (List Int)}(hs:BBSl w v L)(hL:L.length<=1000000)(hq:Zbt (L.getD 0 []) q N)(hlen:N.length+2<=L.length)
 (hbad:L.getD (L.length-1) []≠Zal (endL q)\/L.getD (L.length-1) []=Zal (endL q)/\whole ((L.drop 1).take N.length)=false):Calls Tryz.prog 173 #[v] w (NoTxn w):=by
 have h37:=(Zfh hq.1).1;have hbx:=Zaa w (.cells #[.int .u32 0,.slice none 0 0,.slice none 0 0] 183);have hnx:=heap_alloc_new w (.cells #[.int .u32 0,.slice none 0 0,.slice none 0 0] 183);have KR:=hid (fun W (hb:Below w.heap.size w W)=>Zhr (hs.below hb) (by omega) hq.2.2 hq.1 hq.2.1.1 hq.2.1.2);have KE:=hid (fun W=>tEnd_of W hq.2.1.1 hq.2.1.2);obtain⟨ao,cap,rfl,hcap,hc⟩:=hs.open';obtain⟨b,off,rfl,hb,hcc⟩:=hc (by omega);obtain⟨u0,hu0,hb0⟩:=hcc (L.length-1) (by omega);obtain⟨uo,uc,rfl,_⟩:=hb0.shape;have hmid:=hs.mid 1 N.length (by omega) _ rfl;have hml:((L.drop 1).take N.length).length<=1000000:=by simp;omega
 have KW:=hid (fun W (hb:Below w.heap.size w W)=>tWhole_of (hmid.below hb) hml);have HU0:=hid hb0;have HNS:=hid (fun W vN (h:IR W 0 vN N)=>h.isc.2);generalize Zal (endL q)=EB at KE hbad;obtain⟨LB,hLB⟩:∃ LB,LB=L.getD (L.length-1) []:=⟨_,rfl⟩;rw[<- hLB] at HU0 hbad hu0;obtain⟨y,hy⟩:∃ y,y=LB.length:=⟨_,rfl⟩;rw[<- hy] at hu0 HU0;obtain⟨WB,hWB⟩:∃ WB,WB=whole ((L.drop 1).take N.length):=⟨_,rfl⟩;rw[<- hWB] at KW hbad;obtain⟨n,hn⟩:∃ n,n=N.length:=⟨_,rfl⟩;obtain⟨m,hm⟩:∃ m,m=L.length:=⟨_,rfl⟩;rw[<- hm] at hlen hcap hu0 hL KR |-
 rw[<- hn] at hlen h37 KW HNS;have ew:IntKind.i64.wrap ((m:Int)-1)=(m:Int)-1:=IntWalk.i64_in _ (by omega);have ew2:IntKind.i64.wrap ((n:Int)+2)=(n:Int)+2:=IntWalk.i64_in _ (by omega);have e1:(0:Int)<=(m:Int)-1:=by omega
 have e2:((m:Int)-1).toNat=m-1:=by omega
 have e3:(m:Int)-1<(m:Int):=by omega
 have e4:¬ (m:Int)<(n:Int)+2:=by omega
 have e5:decide ((m:Int)<(n:Int)+2)=false:=decide_eq_false e4;have e6:m-1<m:=by omega
 have e7:(1:Int)<=(m:Int):=by omega
 have e8:1<=m:=by omega
 have e9:0<m:=by omega
 have e10:(0:Int)<(m:Int):=by omega
 have HE1:Hid (1+n-1=n):=hid (by omega);have HE2:Hid ((1:Int)+(n:Int)=((1+n:Nat):Int)):=hid (by push_cast;rfl);have HE3:Hid (1<=1+n/\1+n<=cap/\1<cap):=hid (by omega);have HBAD:=hid hbad;clear hs hq hc hcc hb0 hmid hn hm h37 hml hLB hWB hbad hy;go_enter Tryz.func173,Tryz.ntmps173;go_upto_region 1 with(fail)
 generalize w.alloc (.cells #[.int .u32 0,.slice none 0 0,.slice none 0 0] 183)=w1 at hbx hnx |-
 go_wp2_with (go_at_call 175;(with_reducible refine(KR.out _ hbx).mono ?_);rintro e w2 ⟨v2,rfl,hv2,hb2⟩
              obtain⟨no,nc,rfl,_⟩:=HNS.out _ _ hv2)
 have HB2:Hid (Below w1.heap.size w1 w2.drew):=hid (Zab hb2 1);have HBX:=hid hbx;have HNX:=hid hnx;have e0:w2.drew.cell? ⟨b,off+(m-1),none⟩=some (.slice uo y uc):=((hbx.trans (HB2.out.mono hbx.size)).cell (p:=⟨b,off+(m-1),none⟩) hb).trans hu0;have HU2:=hid (HU0.out.below (hbx.trans (HB2.out.mono hbx.size)));have hz2:b<w2.drew.heap.size:=Nat.lt_of_lt_of_le hb (hbx.trans (HB2.out.mono hbx.size)).size;clear hv2 hb2 hbx hnx hu0 hb HU0;rcases HBAD.out with hne| ⟨heq,hwh⟩
 . have HNE:=hid hne
   clear hne HBAD
   go_region_held3 (fun W=>W.cell? ⟨b,off+(m-1),none⟩=some (.slice uo y uc)) (first|exact f0|exact e0) (first
    |(go_at_call 200;(with_reducible refine(KE.out _).mono ?_);rintro e w5 ⟨v5,rfl,hob5,hb5⟩
      have f0:=(hb5.cell (p:=⟨b,off+(m-1),none⟩) hz2).trans e0;have K6:=hid (Zdm (HU2.out.below hb5) hob5.bsl);rw[decide_eq_false HNE.out] at K6;have HB5:=hid (HB2.out.trans (hb5.mono HB2.out.size));clear hob5)
    |(go_at_call 99;(with_reducible refine K6.out.mono ?_);rintro e w6 ⟨rfl,rfl⟩))
   have hr5:=hold9 HNX.out HB5.out;clear ew ew2 e1 e2 e3 e4 e5 e6 e7 e8 e9 e10 e0 f0 hb5 KW KE KR K6;go_wp2_with (with_reducible refine Zag rfl 183 Zeb (.tmp 2) (.tmp 36) rfl w.heap.size rfl _ _ _ _ _ _ rfl rfl rfl rfl _ hr5 ?_;intro w9 hw9 hr9)
   refine bodyPost_ret (Zbj rfl Tryz.underlying183 Zeb _ _ w.heap.size _ _ _ _ _ rfl hr9 rfl) rfl ⟨rfl,?_⟩;exact(HBX.out.trans (HB5.out.mono HBX.out.size)).trans (hw9.below (Nat.le_refl _))
 . subst heq hwh
   clear HBAD
   go_region_held3 (fun W=>W.cell? ⟨b,off+(m-1),none⟩=some (.slice uo y uc)) (first|exact f0|exact e0) (first
    |(go_at_call 200;(with_reducible refine(KE.out _).mono ?_);rintro e w5 ⟨v5,rfl,hob5,hb5⟩
      have f0:=(hb5.cell (p:=⟨b,off+(m-1),none⟩) hz2).trans e0;have K6:=hid (Zdm (HU2.out.below hb5) hob5.bsl);rw[decide_eq_true (rfl:LB=LB)] at K6;have HB5:=hid (HB2.out.trans (hb5.mono HB2.out.size));clear hob5)
    |(go_at_call 99;(with_reducible refine K6.out.mono ?_);rintro e w6 ⟨rfl,rfl⟩))
   have HB05:=hid (HBX.out.trans (HB5.out.mono HBX.out.size));have K7:=hid (KW.out _ HB05.out);have hr5:=hold9 HNX.out HB5.out;clear ew ew2 e1 e2 e3 e4 e5 e6 e7 e8 e9 e10 e0 f0 hb5 KW KE KR K6
   go_wp2_with (first
    |(with_reducible refine Zhn rfl (.tmp 37) (.const (.int .i64 1)) (.tmp 40) rfl b off m cap rfl 1 (1+(n:Int)) rfl rfl 1 (1+n) n HE1.out rfl HE2.out HE3.out.1 HE3.out.2.1 HE3.out.2.2 ?_)
    |(go_at_call 201;(with_reducible refine K7.out.mono ?_);rintro e w7 ⟨rfl,rfl⟩)
    |(with_reducible refine Zag rfl 183 Zeb (.tmp 2) (.tmp 45) rfl w.heap.size rfl _ _ _ _ _ _ rfl rfl rfl rfl _ hr5 ?_;intro w9 hw9 hr9))
   refine bodyPost_ret (Zbj rfl Tryz.underlying183 Zeb _ _ w.heap.size _ _ _ _ _ rfl hr9 rfl) rfl ⟨rfl,?_⟩;exact HB05.out.trans (hw9.below (Nat.le_refl _))
theorem Ziz{w:World}{v:Value}{L:List (List Int)}(hs:BBSl w v L)(hL:L.length<=1000000):
 Calls Tryz.prog 173 #[v] w fun e w'=>Below w.heap.size w w'/\
  ((∃ q N D vN vD,Zkd L q N D/\e=.returned (.tuple #[.agg #[.int .u32 q,vN,vD],.bool true])/\IR w' 0 vN N/\BBR w' 0 vD D)\/
   ((∀ q N D,¬ Zkd L q N D)/\e=.returned (.tuple #[.agg #[.int .u32 0,.slice none 0 0,.slice none 0 0],.bool false]))):=by
 by_cases hd:∃ q N,0<L.length/\Zbt (L.getD 0 []) q N
 . obtain⟨q,N,h0,hq⟩:=hd
   have one:∀ q' N' D,Zkd L q' N' D->q'=q/\N'=N:=fun q' N' D h=>isHead_one h.1.2 hq
   by_cases hlen:N.length+2<=L.length
   . by_cases hz:L.getD (L.length-1) []=Zal (endL q)
     . cases hw:whole ((L.drop 1).take N.length)
       . refine(tUnpack_rest hs hL hq hlen (.inr ⟨hz,hw⟩)).mono ?_
         rintro e w' ⟨rfl,hb⟩;refine⟨hb,.inr ⟨fun q' N' D h=>?_,rfl⟩⟩;obtain⟨rfl,rfl⟩:=one _ _ _ h;obtain⟨_,_,_,rfl,h5⟩:=h;rw[hw] at h5;cases h5
       . refine(tUnpack_own hs hL hlen hq.2.2 hz rfl hw hq.1 hq.2.1.1 hq.2.1.2).mono ?_
         rintro e w' ⟨vN,vD,rfl,h1,h2,hb⟩;exact⟨hb,.inl ⟨q,N,_,vN,vD,⟨⟨h0,hq⟩,hlen,hz,rfl,hw⟩,rfl,h1,h2⟩⟩
     . refine(tUnpack_rest hs hL hq hlen (.inl hz)).mono ?_
       rintro e w' ⟨rfl,hb⟩;refine⟨hb,.inr ⟨fun q' N' D h=>?_,rfl⟩⟩;obtain⟨rfl,rfl⟩:=one _ _ _ h;exact hz h.2.2.1
   . refine(tUnpack_short hs h0 hq hlen).mono ?_
     rintro e w' ⟨rfl,hb⟩;refine⟨hb,.inr ⟨fun q' N' D h=>?_,rfl⟩⟩;obtain⟨rfl,rfl⟩:=one _ _ _ h;exact hlen h.2.1
 . have hno:∀ q N,¬ (0<L.length/\Zbt (L.getD 0 []) q N):=fun q N h=>hd ⟨q,N,h⟩
   refine(tUnpack_head hs hno).mono ?_;rintro e w' ⟨rfl,hb⟩;exact⟨hb,.inr ⟨fun q N D h=>hno q N h.1,rfl⟩⟩
inductive PA where
 |w (n:Nat) (l:List Int)
 |f
def PA.run(s:DS):PA->DS
 |.w n l=>s.write n l
 |.f=>s.flush
def runA:List PA->DS->Int × DS
 |[],s=>(0,s)
 |a :: A,s=>if s.ok=true then runA A (a.run s) else (2,s.pay)
def PA.fu(x:List (List Int) × List (Nat × List Int)):PA->List (List Int) × List (Nat × List Int)
 |.w n l=>(x.1,x.2 ++ [(n,l)])
 |.f=>(appU x.2 x.1,[])
def Zgm(A:List PA)(x:List (List Int) × List (Nat × List Int)):List (List Int) × List (Nat × List Int):=A.foldl PA.fu x
def DS.fuP(s:DS):List (List Int) × List (Nat × List Int):=(s.F,s.U)
theorem Zam(A B:List PA)(x:List (List Int) × List (Nat × List Int)):Zgm (A ++ B) x=Zgm B (Zgm A x):=List.foldl_append
theorem PA.run_fu(s:DS)(a:PA):(a.run s).fuP=a.fu s.fuP:=by cases a <;> rfl
theorem Zgu:∀ (A:List PA) (s:DS),∃ k,k<=A.length/\(runA A s).2.fuP=Zgm (A.take k) s.fuP/\((runA A s).1=0/\k=A.length\/(runA A s).1=2)
 |[],s=>⟨0,Nat.le_refl _,rfl,.inl ⟨rfl,rfl⟩⟩
 |a :: A,s=>by
  unfold runA;by_cases h:s.ok=true
  . rw[if_pos h]
    obtain⟨k,hk,h1,h2⟩:=Zgu A (a.run s);refine⟨k+1,by simp;omega,?_,?_⟩
    . rw[h1,PA.run_fu];rfl
    . rcases h2 with⟨h2,h3⟩|h2
      . exact .inl ⟨h2,by simp[h3]⟩
      . exact .inr h2
  . rw[if_neg h]
    exact⟨0,Nat.zero_le _,rfl,.inr rfl⟩
theorem Zjq:∀ (A:List PA) (s:DS),s.fu=false->s.dn=false->(runA A s).1=0/\(runA A s).2.fuP=Zgm A s.fuP/\(runA A s).2.fu=false/\(runA A s).2.dn=false/\(runA A s).2.le=s.le
 |[],s,h1,h2=>⟨rfl,rfl,h1,h2,rfl⟩
 |a :: A,s,h1,h2=>by
  have hok:s.ok=true:=by unfold DS.ok pOk;rw[h1,h2];rfl
  unfold runA;rw[if_pos hok];have f1:(a.run s).fu=false:=by cases a <;> exact h1
  have f2:(a.run s).dn=false:=by
   have:pDn s.fu s.le s.dn=false:=by unfold pDn;rw[h1,h2];rfl
   cases a <;> exact this
  have f3:(a.run s).le=s.le:=by
   have:pLe s.fu s.le s.dn=s.le:=by unfold pLe;rw[if_neg (by rw[h1];simp)]
   cases a <;> exact this
  obtain⟨g1,g2,g3,g4,g5⟩:=Zjq A (a.run s) f1 f2;exact⟨g1,by rw[g2,PA.run_fu];rfl,g3,g4,g5.trans f3⟩
theorem Zem(W:List (Nat × List Int))(x:List (List Int) × List (Nat × List Int)):Zgm (W.map fun y=>.w y.1 y.2) x=(x.1,x.2 ++ W):=by
 induction W generalizing x with
 |nil=>simp[Zgm]
 |cons y W ih=>
  show Zgm (W.map fun y=>.w y.1 y.2) (x.1,x.2 ++ [(y.1,y.2)])=_
  rw[ih];simp
theorem appU_or:∀ (W:List (Nat × List Int)) (F:List (List Int)) (i:Nat) (y:List Int),(∀ x∈W,x.1=i->x.2=y)->(appU W F).getD i []=F.getD i []\/(appU W F).getD i []=y
 |[],F,i,y,_=>.inl rfl
 |x :: W,F,i,y,h=>by
  have ih:=appU_or W (F.set x.1 x.2) i y fun z hz=>h z (List.mem_cons_of_mem _ hz)
  show(appU W (F.set x.1 x.2)).getD i []=_\/_
  rcases ih with ih|ih
  . show(appU W (F.set x.1 x.2)).getD i []=F.getD i []\/(appU W (F.set x.1 x.2)).getD i []=y
    rw[ih];by_cases e:x.1=i
    . by_cases hi:i<F.length
      . right
        have:=h x (List.mem_cons_self ..) e;subst e;rw[<- this];simp[List.getD_eq_getElem?_getD,hi]
      . left
        rw[List.getD_eq_getElem?_getD,List.getElem?_eq_none (by rw[List.length_set];omega),List.getD_eq_getElem?_getD,List.getElem?_eq_none (by omega)]
    . left
      rw[List.getD_eq_getElem?_getD,List.getElem?_set_ne e,<- List.getD_eq_getElem?_getD]
  . exact .inr ih
theorem Zip:∀ (W:List (Nat × List Int)) (F:List (List Int)) (i:Nat) (y:List Int),i<F.length->(∀ x∈W,x.1=i->x.2=y)->(∃ x∈W,x.1=i)->(appU W F).getD i []=y
 |[],F,i,y,_,_,h=>by obtain⟨x,hx,_⟩:=h;cases hx
 |x :: W,F,i,y,hi,hall,hex=>by
  show(appU W (F.set x.1 x.2)).getD i []=y
  by_cases h:∃ z∈W,z.1=i
  . exact Zip W _ i y (by rw[List.length_set];exact hi) (fun z hz=>hall z (List.mem_cons_of_mem _ hz)) h
  . have e:x.1=i:=by
     obtain⟨z,hz,hzi⟩:=hex;rcases List.mem_cons.1 hz with rfl|hz
     . exact hzi
     . exact absurd ⟨z,hz,hzi⟩ h
    rw[Zbd W _ i fun z hz hzi=>h ⟨z,hz,hzi⟩];have:=hall x (List.mem_cons_self ..) e;subst e;rw[<- this];simp[List.getD_eq_getElem?_getD,hi]
def jour(V:List (List Int)):List (List Int):=(V.drop 3).take 40
theorem Zcb{V:List (List Int)}(h:43<=V.length):(jour V).length=40:=by simp[jour];omega
theorem Zgx(V:List (List Int))(j:Nat)(hj:j<40):(jour V).getD j []=V.getD (3+j) []:=by
 simp[jour,List.getD_eq_getElem?_getD,hj]
theorem jour_congr{V V':List (List Int)}(h:43<=V.length)(h':43<=V'.length)(he:∀ i,3<=i->i<43->V.getD i []=V'.getD i []):jour V=jour V':=by
 apply List.ext_getElem
 . rw[Zcb h,Zcb h']
 . intro j a b
   have hj:j<40:=by rw[Zcb h] at a;exact a
   have g1:(jour V).getD j []=(jour V)[j]:=by simp[List.getD_eq_getElem?_getD,a]
   have g2:(jour V').getD j []=(jour V')[j]:=by simp[List.getD_eq_getElem?_getD,b]
   rw[<- g1,<- g2,Zgx V j hj,Zgx V' j hj];exact he _ (by omega) (by omega)
theorem end_word(q:Int):(Zal (endL q)).getD 0 0=100:=by
 have e:Zal (endL q)=100 :: ([111,110,101] ++ lowB q 4 ++ List.replicate (252-(endL q).length) 0 ++ lowB (sumS (Zcq (endL q))) 4):=by
  unfold Zal;generalize sumS (Zcq (endL q))=S;unfold Zcq;generalize List.replicate (252-(endL q).length) (0:Int)=R;unfold endL done9;simp
 rw[e];rfl
theorem rep_zero(n:Nat)(h:0<n):(List.replicate n (0:Int)).getD 0 0=0:=by
 cases n with
 |zero=>omega
 |succ n=>rfl
def z256:List Int:=List.replicate 256 0
theorem jour_zero{V:List (List Int)}(h:43<=V.length)(hz:V.getD 42 []=z256)(q:Int)(N:List Int)(D:List (List Int)):¬ Zkd (jour V) q N D:=by
 rintro⟨_,_,hl,_⟩;rw[Zcb h,Zgx V 39 (by omega)] at hl;have e:=end_word q;rw[<- hl,hz,z256,rep_zero 256 (by omega)] at e;exact absurd e (by decide)
theorem jour_txn{V:List (List Int)}(h:43<=V.length){q:Int}{N:List Int}{D:List (List Int)}(hF:frmT N D=true)(hq:0<=q/\q<4294967296)(h3:V.getD 3 []=Zal (Zaz q N))(hb:∀ j,j<N.length->V.getD (4+j) []=D.getD j [])(hz:V.getD 42 []=Zal (endL q)):Zkd (jour V) q N D:=by
 obtain⟨h37,hDl,hall⟩:=Zct hF;have hFN:Zee N=true:=by rw[Zim] at hF;rw[Bool.and_eq_true] at hF;exact hF.1
 have hW:whole D=true:=by rw[Zim,Bool.and_eq_true,Bool.and_eq_true] at hF;exact hF.2.2
 have hjl:=Zcb h;refine⟨⟨by omega,hFN,hq,by rw[Zgx V 0 (by omega)];exact h3⟩,by omega,by rw[hjl,Zgx V 39 (by omega)];exact hz,?_,hW⟩;apply List.ext_getElem
 . simp[hjl];omega
 . intro j a b
   have hj:j<N.length:=by omega
   have h1:=Zgx V (1+j) (by omega);have h2:=hb j hj;have h3:(jour V)[1+j]? =some (V.getD (4+j) []):=by
    rw[List.getD_eq_getElem?_getD,List.getElem?_eq_getElem (by omega)] at h1;rw[List.getElem?_eq_getElem (by omega),<- show 3+(1+j)=4+j by omega,<- h1];rfl
   have h4:((jour V).drop 1).take N.length=((jour V).drop 1).take N.length:=rfl;have h5:(((jour V).drop 1).take N.length)[j]? =some (V.getD (4+j) []):=by
    rw[List.getElem?_take,if_pos hj,List.getElem?_drop];exact h3
   rw[List.getElem?_eq_getElem a] at h5;have h6:D.getD j []=D[j]:=by simp[List.getD_eq_getElem?_getD,b]
   rw[Option.some.inj h5,h2,h6]
end Go.Proofs.YtedabomlfcghoaaGreat
