/- What the law rests on: part 27. -/
import Derived.Test.YtedabomlfcghoaaGreatKF26
set_option linter.unusedVariables false
namespace Go.Proofs.YtedabomlfcghoaaGreat
set_option maxRecDepth 100000
open Go.RowKit BM
theorem flParts_other {x y:Int}{w:World}{v:Value}{l:List Int} (hv:BSl w v l) (hl:1024<l.length):Calls Tryz.prog 4 #[.int .u16 x,v,.int .u64 y] w fun e w'=>e=.returned (.bool true)/\Below w.heap.size w w':=by
 have KA1:=Lib.hid (awake15_any w)
 have KA:=Lib.hid awake15_any
 obtain ⟨ao,cap,rfl,_⟩:=hv.shape
 have hL:(1024:Int)<(l.length:Int):=by omega
 clear hv hl
 go_enter Tryz.func4,Tryz.ntmps4
 go_wp2_with (first
  |(go_at_call 7;(with_reducible refine KA1.out.mono ?_);rintro e w2 ⟨rfl,hb2⟩)
  |(go_at_call 7;refine (KA.out _).mono ?_;rintro e w3 ⟨rfl,hb3⟩))
 go_ret
 exact ⟨rfl,hb2.trans (hb3.mono hb2.size)⟩
theorem spN_two {a n1 n2:Nat} (h:n1+n2<=1024):spN a n1+spN (a+n1) n2<=6:=by
 unfold spN
 by_cases h1:n1=0
 · subst h1
   rw[if_pos rfl]
   split <;> omega
 · rw[if_neg h1]
   split
   · omega
   · have:(a+n1)%256=(a%256+n1)%256:=by omega
     rw[this]
     omega
set_option maxHeartbeats 2000000 in
theorem flParts_main {x y:Int} (hx:0<=x/\x<=65535) (hy:0<=y/\y<=18446744073709551615) {w:World}{v:Value}{l:List Int} (hv:BSl w v l) (hl:l.length<=1024):Calls Tryz.prog 4 #[.int .u16 x,v,.int .u64 y] w fun e w'=>e=.returned (.bool true)/\Below w.heap.size w w':=by
 have KA1:=Lib.hid (awake15_any w)
 have KM:Hid (∀ V:World,Below w.heap.size w V->Calls Tryz.prog 9 #[.int .i64 128] V fun e w'=>∃ bf b P d X,e=.returned (.pointer (some ⟨bf,0,none⟩))/\Fsd w w' P d (.pointer (some ⟨b,0,none⟩)) X (newS 2) (N14 2) (newO 2) 2 F14 bf):=Lib.hid fun V hb=>made15_of (kk:=2) (by decide) (by decide) w hb
 obtain ⟨r,hr⟩:∃ r:Nat,(r:Int)=x%30000:=⟨(x%30000).toNat,by omega⟩
 have hr2:r<30000:=by omega
 have ht:x.tmod 30000=r:=by rw[Int.tmod_eq_emod_of_nonneg hx.1];exact hr.symm
 obtain ⟨L,hL⟩:∃ L,L=l.length:=⟨_,rfl⟩
 rw[<- hL] at hl
 obtain ⟨k,hk⟩:∃ k:Nat,(k:Int)=y%((L:Int)+1):=⟨(y%((L:Int)+1)).toNat,by have:=Int.emod_nonneg y (show (L:Int)+1≠0 by omega);omega⟩
 have hkL:k<=L:=by have:=Int.emod_lt_of_pos y (show (0:Int)<(L:Int)+1 by omega);omega
 have ht2:y.tmod ((L:Int)+1)=k:=by rw[Int.tmod_eq_emod_of_nonneg hy.1];exact hk.symm
 have hw1:IntKind.u64.wrap ((L:Int)+1)=(L:Int)+1:=IntWalk.u64_in _ (by omega)
 have hw0:IntKind.i64.wrap ((L:Int)+1)=(L:Int)+1:=IntWalk.i64_in _ (by omega)
 have hw2:IntKind.i64.wrap (k:Int)=(k:Int):=IntWalk.i64_in _ (by omega)
 have hn0:((L:Int)+1==0)=false:=by rw[beq_eq_false_iff_ne];omega
 obtain ⟨v1,v2,hs1,hs2,hv1,hv2⟩:=cuts_of hv (k:=k) (by omega) (by omega)
 have hap:∀ {u:Value} {m:List Int},BSl w u m->∀ (V:World) (P:Nat->Prop),(∀ j,P j->w.heap.size<=j/\j<V.heap.size)->Apt P u:=fun hu V P hP=>Apt.of_lt hu fun j hj=>(hP j hj).1
 have hl1:(l.take k).length=k:=by rw[List.length_take];omega
 have hl2:(l.drop k).length=L-k:=by rw[List.length_drop];omega
 obtain ⟨sz,hsz⟩:∃ sz,sz=(if L=0 then 0 else max 0 (r+L)):=⟨_,rfl⟩
 obtain ⟨M2,hM2⟩:∃ M2,M2=wrL (fun _=>none) r l:=⟨_,rfl⟩
 have hq1:=spN_le (a:=r) (n:=L) hl
 have hq2:=spN_two (a:=r) (n1:=k) (n2:=L-k) (by omega)
 have K1:Hid (∀ (V:World) (d p:Value) (bf:Nat),Wk2 w d p 2 bf 2 0 (fun _=>none) 3 0 (fun _=>none) 6 6 V->Calls Tryz.prog 19 #[.pointer (some ⟨bf,0,none⟩),.int .i64 2,.int .i64 r,v] V fun e w'=>e=.returned (.tuple #[.int .i64 L,.int .i64 0])/\Wk2 w d p 2 bf 3 0 (fun _=>none) 2 sz M2 (6+2*spN r L) (6+spN r L+1) w'):=Lib.hid fun V d p bf h=>by
  have:=h.write (by decide) (by decide) (by decide) (by decide) (by decide) (Below.refl _ _) (hv.below h.be) (fun P hP=>hap hv V P hP) (a:=r) (by omega) (by omega) (by rw[<- hL];omega) (by rw[<- hL];omega)
  refine this.mono ?_
  rintro e w' ⟨he,h2⟩
  rw[<- hL] at he h2
  rw[<- hsz,<- hM2] at h2
  exact ⟨he,h2.swap (fun _=>rfl) (by decide)⟩
 have K2:Hid (∀ (V:World) (d p:Value) (bf:Nat),Wk2 w d p 2 bf 3 0 (fun _=>none) 2 sz M2 (6+2*spN r L) (6+spN r L+1) V->Calls Tryz.prog 19 #[.pointer (some ⟨bf,0,none⟩),.int .i64 3,.int .i64 r,v1] V fun e w'=>e=.returned (.tuple #[.int .i64 k,.int .i64 0])/\Wk2 w d p 2 bf 3 (if k=0 then 0 else max 0 (r+k)) (wrL (fun _=>none) r (l.take k)) 2 sz M2 (6+2*spN r L+2*spN r k) (6+spN r L+1+spN r k+1) w'):=Lib.hid fun V d p bf h=>by
  have:=h.write (by decide) (by decide) (by decide) (by decide) (by decide) (Below.refl _ _) (hv1.below h.be) (fun P hP=>hap hv1 V P hP) (a:=r) (by omega) (by omega) (by rw[hl1];omega) (by rw[hl1];omega)
  rw[hl1] at this
  exact this
 have hfin:(if L-k=0 then (if k=0 then 0 else max 0 (r+k)) else max (if k=0 then 0 else max 0 (r+k)) (r+k+(L-k)))=sz:=by
  rw[hsz]
  by_cases e1:k=0
  · by_cases e2:L=0
    · rw[if_pos (by omega),if_pos e1,if_pos e2]
    · rw[if_neg (by omega),if_pos e1,if_neg e2];omega
  · rw[if_neg e1,if_neg (show ¬ L=0 by omega)]
    split <;> omega
 have hMfin:wrL (wrL (fun _=>none) r (l.take k)) (r+k) (l.drop k)=M2:=by
  rw[hM2]
  conv=>rhs;rw[<- List.take_append_drop k l]
  rw[wrL_append,hl1]
 have K3:Hid (∀ (V:World) (d p:Value) (bf:Nat),Wk2 w d p 2 bf 3 (if k=0 then 0 else max 0 (r+k)) (wrL (fun _=>none) r (l.take k)) 2 sz M2 (6+2*spN r L+2*spN r k) (6+spN r L+1+spN r k+1) V->Calls Tryz.prog 19 #[.pointer (some ⟨bf,0,none⟩),.int .i64 3,.int .i64 ((r+k:Nat):Int),v2] V fun e w'=>e=.returned (.tuple #[.int .i64 ((L-k:Nat):Int),.int .i64 0])/\Hid (Wk2 w d p 2 bf 3 sz M2 2 sz M2 34 100 w')):=Lib.hid fun V d p bf h=>by
  have:=h.write (by decide) (by decide) (by decide) (by decide) (by decide) (Below.refl _ _) (hv2.below h.be) (fun P hP=>hap hv2 V P hP) (a:=r+k) (by omega) (by rw[hl2];omega) (by rw[hl2];omega) (by rw[hl2];omega)
  rw[hl2] at this
  refine this.mono ?_
  rintro e w' ⟨he,h2⟩
  rw[hfin,hMfin] at h2
  obtain ⟨P,X,N,O,F,Q,a1,a2,a3,a4,a5⟩:=h2
  exact ⟨he,Lib.hid ⟨P,X,N,O,F,Q,a1,a2,a3,by omega,by omega⟩⟩
 have KR2:Hid (∀ (V:World) (d p:Value) (bf:Nat),Wk2 w d p 2 bf 3 sz M2 2 sz M2 34 100 V->Calls Tryz.prog 15 #[.pointer (some ⟨bf,0,none⟩),.int .i64 2,.int .i64 0,.int .i64 40000] V fun e w'=>∃ v,e=.returned (.tuple #[v,.int .i64 0])/\BSl w' v (rdB M2 0 sz)/\Wk2 w d p 2 bf 3 sz M2 2 sz M2 34 100 w'):=Lib.hid fun V d p bf h=>(h.readO (by decide) (by decide)).mono fun e w' ⟨v,he,hb,hbe⟩=>⟨v,he,hb,h.low hbe⟩
 have KR3:Hid (∀ (V:World) (d p:Value) (bf:Nat),Wk2 w d p 2 bf 3 sz M2 2 sz M2 34 100 V->Calls Tryz.prog 15 #[.pointer (some ⟨bf,0,none⟩),.int .i64 3,.int .i64 0,.int .i64 40000] V fun e w'=>∃ v,e=.returned (.tuple #[v,.int .i64 0])/\BSl w' v (rdB M2 0 sz)/\Below V.heap.size V w'/\Below w.heap.size w w'):=Lib.hid fun V d p bf h=>(h.read (by decide) (by decide)).mono fun e w' ⟨v,he,hb,hbe⟩=>⟨v,he,hb,hbe,(h.low hbe).be⟩
 have KB:Hid (∀ (V:World) (P:Nat->Prop) (d p:Value) (X:XSt) (bf:Nat),Fsd w V P d p X (newS 2) (N14 2) (newO 2) 2 F14 bf->Calls Tryz.prog 18 #[p] V fun e w'=>e=.returned (.int .i64 0)/\Wk2 w d p 2 bf 2 0 (fun _=>none) 3 0 (fun _=>none) 6 6 w'):=Lib.hid fun V P d p X bf h=>h.wk2 (by decide) (by decide)
 have er:((r:Int))+(k:Int)=((r+k:Nat):Int):=by omega
 have eLk:(L:Int)-(k:Int)=((L-k:Nat):Int):=by omega
 have hwr:IntKind.i64.wrap ((r:Int)+(k:Int))=((r+k:Nat):Int):=by rw[IntWalk.i64_in _ (by omega)];exact er
 obtain ⟨rk,hrk⟩:∃ rk,rk=r+k:=⟨_,rfl⟩
 rw[<- hrk] at K2 K3 er hwr
 have HER:=Lib.hid er
 obtain ⟨ao,cap,rfl,_⟩:=hv.shape
 rw[<- hL] at hs1 hs2 K1 |-
 have HELK:=Lib.hid eLk
 have eL:(L:Int)<=1024:=by omega
 have ek:(k:Int)<=(L:Int):=by omega
 have er3:(r:Int)<=29999:=by omega
 clear hr2 hr hk hv hv1 hv2 hap hl1 hl2 hsz hM2 hq1 hq2 hfin hMfin hL er eLk hrk hx hy hwr
 go_enter Tryz.func4,Tryz.ntmps4
 go_wp2_with (first
  |(go_at_call 7;refine KA1.out.mono ?_;rintro e w2 ⟨rfl,hb2⟩)
  |(go_at_call 9;refine (KM.out _ hb2).mono ?_;rintro e w3 ⟨bf,b,P3,d,X3,rfl,hf3⟩;have c3:=hf3.fs.cell;have KB3:=Lib.hid (KB.out _ _ _ _ _ _ hf3);clear hf3)
  |(go_at_call 18;refine KB3.out.mono ?_;rintro e w4 ⟨rfl,h4⟩;have H4:=Lib.hid h4;clear h4)
  |(go_at_call 19;(with_reducible refine (K1.out _ _ _ _ H4.out).mono ?_);rintro e w5 ⟨rfl,h5⟩;have H5:=Lib.hid h5;clear h5)
  |(go_at_call 19;(with_reducible refine (K2.out _ _ _ _ H5.out).mono ?_);rintro e w6 ⟨rfl,h6⟩;have H6:=Lib.hid h6;clear h6)
  |(go_at_call 19;rw[HER.out];(with_reducible refine (K3.out _ _ _ _ H6.out).mono ?_);rintro e w7 ⟨rfl,H7⟩)
  |(go_at_call 15;(with_reducible refine (KR2.out _ _ _ _ H7.out).mono ?_);rintro e w8 ⟨u1,rfl,hu1,h8⟩;have H8:=Lib.hid h8;have HU1:=Lib.hid hu1;clear h8 hu1)
  |(go_at_call 15;(with_reducible refine (KR3.out _ _ _ _ H8.out).mono ?_);rintro e w9 ⟨u2,rfl,hu2,hb9,hb09⟩
    have hcv1:=conv_bsl (HU1.out.below hb9)
    have hcv2:=conv_bsl hu2
    generalize strOfNums (rdB M2 0 sz)=T at hcv1 hcv2
    clear hu2 hb9))
 go_ret
 exact ⟨by simp[HELK.out],hb09⟩
theorem lFileParts_of {x y:Int} (hx:0<=x/\x<=65535) (hy:0<=y/\y<=18446744073709551615) {w:World}{v:Value}{l:List Int} (hv:BSl w v l):Calls Tryz.prog 4 #[.int .u16 x,v,.int .u64 y] w fun e w'=>e=.returned (.bool true)/\Below w.heap.size w w':=by
 by_cases h:l.length<=1024
 · exact flParts_main hx hy hv h
 · exact flParts_other hv (by omega)
theorem flHoles_other {x y z:Int}{w:World}{v:Value}{l:List Int} (hv:BSl w v l) (hl:l.length=0\/1024<l.length):Calls Tryz.prog 6 #[.int .u16 x,.int .u16 y,.int .u16 z,v] w fun e w'=>e=.returned (.bool true)/\Below w.heap.size w w':=by
 have KA1:=Lib.hid (awake15_any w)
 have KA:=Lib.hid awake15_any
 obtain ⟨ao,cap,rfl,_⟩:=hv.shape
 by_cases h0:l.length=0
 · rw[h0]
   clear hv hl h0
   go_enter Tryz.func6,Tryz.ntmps6
   go_wp2_with (first
    |(go_at_call 7;(with_reducible refine KA1.out.mono ?_);rintro e w2 ⟨rfl,hb2⟩)
    |(go_at_call 7;refine (KA.out _).mono ?_;rintro e w3 ⟨rfl,hb3⟩))
   go_ret
   exact ⟨rfl,hb2.trans (hb3.mono hb2.size)⟩
 · have hL:(1024:Int)<(l.length:Int):=by omega
   have hL0:((l.length:Int)==0)=false:=by rw[beq_eq_false_iff_ne];omega
   clear hv hl h0
   go_enter Tryz.func6,Tryz.ntmps6
   go_wp2_with (first
    |(go_at_call 7;(with_reducible refine KA1.out.mono ?_);rintro e w2 ⟨rfl,hb2⟩)
    |(go_at_call 7;refine (KA.out _).mono ?_;rintro e w3 ⟨rfl,hb3⟩))
   go_ret
   exact ⟨rfl,hb2.trans (hb3.mono hb2.size)⟩
theorem ok_none:OkB fun _=>none:=⟨fun i l e=>(by cases e),fun i l e=>(by cases e)⟩
theorem by_none (j:Nat):byB (fun _=>none) j=0:=by
 unfold byB bkB
 show z256.getD _ 0=0
 unfold z256
 rw[List.getD_eq_getElem?_getD,List.getElem?_replicate]
 split <;> rfl
set_option maxHeartbeats 4000000 in
theorem flHoles_main {x y z:Int} (hx:0<=x/\x<=65535) (hy:0<=y/\y<=65535) (hz:0<=z/\z<=65535) {w:World}{v:Value}{l:List Int} (hv:BSl w v l) (hl0:0<l.length) (hl:l.length<=1024):
 Calls Tryz.prog 6 #[.int .u16 x,.int .u16 y,.int .u16 z,v] w fun e w'=>e=.returned (.bool true)/\Below w.heap.size w w':=by
 have KA1:=Lib.hid (awake15_any w)
 have KM:Hid (∀ V:World,Below w.heap.size w V->Calls Tryz.prog 9 #[.int .i64 128] V fun e w'=>∃ bf b P d X,e=.returned (.pointer (some ⟨bf,0,none⟩))/\Fsd w w' P d (.pointer (some ⟨b,0,none⟩)) X (newS 2) (N14 2) (newO 2) 2 F14 bf):=Lib.hid fun V hb=>made15_of (kk:=2) (by decide) (by decide) w hb
 obtain ⟨r,hr⟩:∃ r:Nat,(r:Int)=x%30000:=⟨(x%30000).toNat,by omega⟩
 obtain ⟨k,hk⟩:∃ k:Nat,(k:Int)=y%32000:=⟨(y%32000).toNat,by omega⟩
 obtain ⟨n,hn⟩:∃ n:Nat,(n:Int)=z%35000:=⟨(z%35000).toNat,by omega⟩
 have hr2:(r:Int)<=29999:=by omega
 have hk2:(k:Int)<=31999:=by omega
 have hn2:(n:Int)<=34999:=by omega
 have ht1:x.tmod 30000=r:=by rw[Int.tmod_eq_emod_of_nonneg hx.1];exact hr.symm
 have ht2:y.tmod 32000=k:=by rw[Int.tmod_eq_emod_of_nonneg hy.1];exact hk.symm
 have ht3:z.tmod 35000=n:=by rw[Int.tmod_eq_emod_of_nonneg hz.1];exact hn.symm
 obtain ⟨vb,vo,cap,rfl,_,hvb⟩:=hv.open' hl0
 have HVC:Hid (∀ W,Below w.heap.size w W->∀ d,d<l.length->W.cell? ⟨vb,vo+d,none⟩=some (.int .u8 (l.getD d 0))):=Lib.hid fun W hb d hd=>by
  rcases (hv.below hb).2 with ⟨e,_⟩| ⟨a,c,e,_,hc⟩
  · cases e
  · obtain rfl:=Option.some.inj (Value.slice.inj e).1
    exact (hc d hd).2.2
 obtain ⟨L,hL⟩:∃ L,L=l.length:=⟨_,rfl⟩
 obtain ⟨M,hM⟩:∃ M,M=rsB (rsB (wrL (fun _=>none) r l) k) n:=⟨_,rfl⟩
 have hby:∀ j,j<n->byB M j=if r<=j/\j-r<L/\j<k then l.getD (j-r) 0 else 0:=fun j hj=>by
  have hk1:=OkB.wrL l r ok_none hv.1
  rw[hM,byB_rs (hk1.rs k),if_pos hj,byB_rs hk1,byB_wrL l _ r ok_none hv.1,by_none]
  by_cases c1:j<k
  · rw[if_pos c1]
    by_cases c2:r<=j/\j<r+l.length
    · rw[if_pos c2,if_pos ⟨c2.1,by omega,c1⟩]
    · rw[if_neg c2,if_neg (fun e=>c2 ⟨e.1,by omega⟩)]
  · rw[if_neg c1,if_neg (fun e=>c1 e.2.2)]
 have HBY:=Lib.hid hby
 have hq1:=spN_le (a:=r) (n:=L) (by omega)
 have hap:∀ (V:World) (P:Nat->Prop),(∀ j,P j->w.heap.size<=j/\j<V.heap.size)->Apt P (.slice (some ⟨vb,vo,none⟩) l.length cap):=fun V P hP=>Apt.of_lt hv fun j hj=>(hP j hj).1
 have K1:Hid (∀ (V:World) (d p:Value) (bf:Nat),Wk2 w d p 2 bf 2 0 (fun _=>none) 3 0 (fun _=>none) 6 6 V->Calls Tryz.prog 19 #[.pointer (some ⟨bf,0,none⟩),.int .i64 2,.int .i64 r,.slice (some ⟨vb,vo,none⟩) l.length cap] V fun e w'=>e=.returned (.tuple #[.int .i64 L,.int .i64 0])/\Hid (Wk2 w d p 2 bf 2 (r+L) (wrL (fun _=>none) r l) 3 0 (fun _=>none) 20 20 w')):=Lib.hid fun V d p bf h=>by
  have:=h.write (by decide) (by decide) (by decide) (by decide) (by decide) (Below.refl _ _) (hv.below h.be) (fun P hP=>hap V P hP) (a:=r) hl (by omega) (by rw[<- hL];omega) (by rw[<- hL];omega)
  refine this.mono ?_
  rintro e w' ⟨he,P,X,N,O,F,Q,a1,a2,a3,a4,a5⟩
  rw[if_neg (by omega),show max 0 (r+l.length)=r+L by omega] at a2
  rw[<- hL] at he a4 a5
  exact ⟨he,Lib.hid ⟨P,X,N,O,F,Q,a1,a2,a3,by omega,by omega⟩⟩
 have K2:Hid (∀ (V:World) (d p:Value) (bf:Nat),Wk2 w d p 2 bf 2 (r+L) (wrL (fun _=>none) r l) 3 0 (fun _=>none) 20 20 V->Calls Tryz.prog 20 #[.pointer (some ⟨bf,0,none⟩),.int .i64 2,.int .i64 k] V fun e w'=>e=.returned (.int .i64 0)/\Hid (Wk2 w d p 2 bf 2 k (rsB (wrL (fun _=>none) r l) k) 3 0 (fun _=>none) 21 20 w')):=Lib.hid fun V d p bf h=>(h.resize (by decide) (by decide) (by decide) (by decide) (by decide) (by omega) (by decide)).mono fun e w' ⟨he,h2⟩=>⟨he,Lib.hid h2⟩
 have K3:Hid (∀ (V:World) (d p:Value) (bf:Nat),Wk2 w d p 2 bf 2 k (rsB (wrL (fun _=>none) r l) k) 3 0 (fun _=>none) 21 20 V->Calls Tryz.prog 20 #[.pointer (some ⟨bf,0,none⟩),.int .i64 2,.int .i64 n] V fun e w'=>e=.returned (.int .i64 0)/\Hid (Wk2 w d p 2 bf 2 n M 3 0 (fun _=>none) 22 20 w')):=Lib.hid fun V d p bf h=>(h.resize (v:=n) (by decide) (by decide) (by decide) (by decide) (by decide) (by omega) (by decide)).mono fun e w' ⟨he,h2⟩=>⟨he,Lib.hid (by rw[hM];exact h2)⟩
 have K4:Hid (∀ (V:World) (d p:Value) (bf:Nat),Wk2 w d p 2 bf 2 n M 3 0 (fun _=>none) 22 20 V->Calls Tryz.prog 15 #[.pointer (some ⟨bf,0,none⟩),.int .i64 2,.int .i64 0,.int .i64 40000] V fun e w'=>∃ ao c,e=.returned (.tuple #[.slice ao n c,.int .i64 0])/\Hid (∀ j,j<n->∃ g o,ao=some ⟨g,o,none⟩/\w'.cell? ⟨g,o+j,none⟩=some (.int .u8 (byB M j)))/\FsAt w' bf p/\Hid (Wk2 w d p 2 bf 2 n M 3 0 (fun _=>none) 22 20 w')):=Lib.hid fun V d p bf h=>(h.read (by decide) (by decide)).mono fun e w' ⟨u,he,hu,hbe⟩=>by
  obtain ⟨ao,c,rfl,_⟩:=hu.shape
  rw[rdB_len] at he
  refine ⟨ao,c,he,Lib.hid fun j hj=>?_,(h.low hbe).fs,Lib.hid (h.low hbe)⟩
  obtain ⟨g,o,c2,e2,_,_⟩:=hu.open' (by rw[rdB_len];omega)
  refine ⟨g,o,(Value.slice.inj e2).1,?_⟩
  rcases hu.2 with ⟨e,_⟩| ⟨a,c3,e3,_,hc⟩
  · rw[e] at e2;cases e2
  · rw[e2] at e3
    obtain rfl:=Option.some.inj (Value.slice.inj e3).1
    have:=(hc j (by rw[rdB_len];exact hj)).2.2
    rw[rdB_get _ _ hj,Nat.zero_add] at this
    exact this
 have K5:Hid (∀ (V:World) (d p:Value) (bf:Nat),Wk2 w d p 2 bf 2 n M 3 0 (fun _=>none) 22 20 V->Calls Tryz.prog 21 #[p,.bool true] V fun e w'=>e=.returned (.int .i64 0)/\Below w.heap.size w w'):=Lib.hid fun V d p bf h=>h.fin
 have KB:Hid (∀ (V:World) (P:Nat->Prop) (d p:Value) (X:XSt) (bf:Nat),Fsd w V P d p X (newS 2) (N14 2) (newO 2) 2 F14 bf->Calls Tryz.prog 18 #[p] V fun e w'=>e=.returned (.int .i64 0)/\Wk2 w d p 2 bf 2 0 (fun _=>none) 3 0 (fun _=>none) 6 6 w'):=Lib.hid fun V P d p X bf h=>h.wk2 (by decide) (by decide)
 have HBEL:Hid (∀ (V:World) (d p:Value) (bf:Nat),Wk2 w d p 2 bf 2 n M 3 0 (fun _=>none) 22 20 V->Below w.heap.size w V):=Lib.hid fun V d p bf h=>h.be
 rw[<- hL] at K1 HVC |-
 have eL:(L:Int)<=1024:=by omega
 have eL0:((L:Int)==0)=false:=by rw[beq_eq_false_iff_ne];omega
 clear hr hk hn hv hl0 hl hL hM hby hq1 hap hx hy hz hvb
 go_enter Tryz.func6,Tryz.ntmps6
 go_wp2_with (first
  |(go_at_call 7;refine KA1.out.mono ?_;rintro e w2 ⟨rfl,hb2⟩)
  |(go_at_call 9;refine (KM.out _ hb2).mono ?_;rintro e w3 ⟨bf,b,P3,d,X3,rfl,hf3⟩;have c3:=hf3.fs.cell;have KB3:=Lib.hid (KB.out _ _ _ _ _ _ hf3);clear hf3)
  |(go_at_call 18;refine KB3.out.mono ?_;rintro e w4 ⟨rfl,h4⟩;have H4:=Lib.hid h4;clear h4)
  |(go_at_call 19;(with_reducible refine (K1.out _ _ _ _ H4.out).mono ?_);rintro e w5 ⟨rfl,H5⟩)
  |(go_at_call 20;(with_reducible refine (K2.out _ _ _ _ H5.out).mono ?_);rintro e w6 ⟨rfl,H6⟩)
  |(go_at_call 20;(with_reducible refine (K3.out _ _ _ _ H6.out).mono ?_);rintro e w7 ⟨rfl,H7⟩)
  |(go_at_call 15;(with_reducible refine (K4.out _ _ _ _ H7.out).mono ?_);rintro e w8 ⟨ao,c,rfl,HC8,hf8,H8⟩;have c8:=hf8.cell;have HV8:=Lib.hid (HVC.out w8 (HBEL.out _ _ _ _ H8.out));clear hf8))
 have KE:=Lib.hid (K5.out _ _ _ _ H8.out)
 clear K1 K2 K3 K4 K5 KB KM KA1 H4 H5 H6 H7 HVC HBEL hb2
 go_loopw [94] (fun i wr=>w8=wr/\∃ j:Nat,j<=n/\i=.int .i64 j) (fun i _=>n-(intOf i).toNat)
 case atStart=>exact ⟨rfl,0,Nat.zero_le _,rfl⟩
 case round=>
  obtain ⟨rfl,j,hj,rfl⟩:=hrel
  by_cases hlt:j<n
  · obtain ⟨g,o,rfl,hc⟩:=HC8.out j hlt
    rw[HBY.out j hlt] at hc
    have ej:(j:Int)<(n:Int):=by omega
    have hj1:j+1<=n:=by omega
    by_cases h1:r<=j
    · have e1:(r:Int)<=(j:Int):=by omega
      obtain ⟨t,ht⟩:∃ t,t=j-r:=⟨_,rfl⟩
      have e2:(j:Int)-(r:Int)=(t:Int):=by omega
      rw[<- ht] at hc
      by_cases h2:t<L
      · have e3:(t:Int)<(L:Int):=by omega
        by_cases h3:j<k
        · have e4:(j:Int)<(k:Int):=by omega
          rw[if_pos ⟨h1,h2,h3⟩] at hc
          have hb:=HV8.out t h2
          generalize l.getD t 0=y at hc hb
          clear ht h1
          go_wp2
          go_roundw
          case rel=>exact ⟨by trivial,j+1,hj1,by go_num⟩
          case measure=>simp[intOf];omega
        · have e4:¬ (j:Int)<(k:Int):=by omega
          rw[if_neg (fun e=>h3 e.2.2)] at hc
          clear ht h1 h3
          go_wp2
          go_roundw
          case rel=>exact ⟨by trivial,j+1,hj1,by go_num⟩
          case measure=>simp[intOf];omega
      · have e3:¬ (t:Int)<(L:Int):=by omega
        rw[if_neg (fun e=>h2 e.2.1)] at hc
        clear ht h1 h2
        go_wp2
        go_roundw
        case rel=>exact ⟨by trivial,j+1,hj1,by go_num⟩
        case measure=>simp[intOf];omega
    · have e1:¬ (r:Int)<=(j:Int):=by omega
      rw[if_neg (fun e=>h1 e.1)] at hc
      clear h1
      go_wp2
      go_roundw
      case rel=>exact ⟨by trivial,j+1,hj1,by go_num⟩
      case measure=>simp[intOf];omega
  · obtain rfl:j=n:=by omega
    go_wp2_with (go_at_call 21;refine KE.out.mono ?_;rintro e w9 ⟨rfl,hb9⟩)
    go_ret
    exact ⟨rfl,hb9⟩
theorem lFileHoles_of {x y z:Int} (hx:0<=x/\x<=65535) (hy:0<=y/\y<=65535) (hz:0<=z/\z<=65535) {w:World}{v:Value}{l:List Int} (hv:BSl w v l):Calls Tryz.prog 6 #[.int .u16 x,.int .u16 y,.int .u16 z,v] w fun e w'=>e=.returned (.bool true)/\Below w.heap.size w w':=by
 by_cases h:l.length=0\/1024<l.length
 · exact flHoles_other hv h
 · exact flHoles_main hx hy hz hv (by omega) (by omega)
end Go.Proofs.YtedabomlfcghoaaGreat
