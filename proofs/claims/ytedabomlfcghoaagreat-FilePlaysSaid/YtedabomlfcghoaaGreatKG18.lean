/- What the law rests on: part 18. -/
import Derived.Test.YtedabomlfcghoaaGreatKG17
set_option linter.unusedVariables false
namespace Go.Proofs.YtedabomlfcghoaaGreat
set_option maxRecDepth 100000
open Go.RowKit
theorem bsl_cells(w:World)(l:List Int)(hl:Byt l)(C:Array Value)(hC:C=(l.map (Value.int .u8)).toArray)(n:Nat)(hn:l.length=n):BSl (w.alloc (.cells C 5)) (.slice (some ⟨w.heap.size,0,none⟩) n n) l:=by
 subst hC hn;refine⟨hl,.inr ⟨⟨w.heap.size,0,none⟩,l.length,rfl,Nat.le_refl _,fun j hj=>⟨by simp,rfl,?_⟩⟩⟩;show(w.alloc _).cell? ⟨w.heap.size,0+j,none⟩=_
 rw[Nat.zero_add,cell_of_row _ _ _ _ _ _ (heap_alloc_new w _)];simp[List.getD_eq_getElem?_getD,hj]
theorem low_one(n:Int)(h:0<=n/\n<=255):lowB n 1=[n]:=by
 rw[Zia,Zhz,List.nil_append];simp only[Nat.mul_zero,Int.pow_zero,Int.ediv_one];rw[Int.emod_eq_of_lt h.1 (by omega)]
theorem con7_two(x:List Int)(h0:0<=x.getD 0 0/\x.getD 0 0<=255)(h1:0<=x.getD 1 0/\x.getD 1 0<=255):con7 x 2=[x.getD 0 0,x.getD 1 0]:=by
 show([] ++ lowB (x.getD 0 0) 1) ++ lowB (x.getD 1 0) 1=_
 rw[low_one _ h0,low_one _ h1];rfl
theorem grown_row{w w':World}{row:Option Nat}(h:w.grownBy w' row)(b:Nat)(hb:b<w.heap.size)(hne:∀ k,row=some k->k≠b):w'.heap[b]? =w.heap[b]? :=
 h.block b hb (fun e=>hne b e.symm rfl)
theorem infoR7:(Tryz.prog.info? 146).map (·.size)=some 14:=by kernel_rfl
theorem rEncI_len{w:World}(ao:Option Addr)(len cap:Nat)(h:len≠8):Calls Tryz.prog 83 #[.slice ao len cap] w fun e w'=>e=.returned (.tuple #[.slice none 0 0,.int .i64 1])/\w=w':=by
 have hne:((len:Int) != 8)=true:=by simp;omega
 go_enter Tryz.func83,Tryz.ntmps83;go_wp2;go_ret2;exact⟨rfl,rfl⟩
set_option maxHeartbeats 4000000 in
theorem rEncI_8{w:World}{v:Value}{O:List (List Int)}(hs:NSl w v O)(h8:O.length=8):Calls Tryz.prog 83 #[v] w (EncT7 O w):=by
 obtain⟨b,off,cap,rfl,hb,hc⟩:=hs.at (by omega);have H14:=hid hs.1;have HYE:=hid (allF_yes h8);have HNO:=hid (fun k hk h=>allF_no (k:=k) h8 hk h);have H8:=hid h8;rw[h8] at hc |-
 have HC:=hid hc;clear hs hc h8;go_enter Tryz.func83,Tryz.ntmps83;go_wp2;go_loopw [4,13] (fun u i wr=>∃ k:Nat,k<=8/\i=.int .i64 k/\Hid (OB wr w.heap.size u (Zeg O k))/\Hid (∀ j,j<k->frmI (O.getD j [])=true)/\Below w.heap.size w wr) (fun _ i _=>8-(intOf i).toNat)
 case atStart=>exact⟨0,by omega,rfl,⟨Zfb,World.ownsRow_nil w _ _ _⟩,fun j hj=>absurd hj (Nat.not_lt_zero _),Below.refl _ _⟩
 case round=>
  obtain⟨k,hk,rfl,HOB,HK,hbr⟩:=hrel;by_cases hlt:k<8
  . have hrg:=range_low (HC.out k hlt) hbr hb
    have hno:=HNO.out k hlt;have h14:=Zge H14.out k (by rw[H8.out];exact hlt);have hpk:Zeg O (k+1)=Zeg O k ++ enc7 (O.getD k []):=rfl;obtain⟨x,hx⟩:∃ x,x=O.getD k []:=⟨_,rfl⟩;rw[<- hx] at hrg hpk hno h14;have ek:(k:Int)<8:=by omega
    have HX:=hid hx;have HPK:=hid hpk;have HL:=hid (Zda O k);have HN1:=hid hno;have HRG:=hid hrg;have HX14:Hid (zeroI.length=x.length):=hid h14.symm;have HL14:=hid h14;have HI14:Hid ((Tryz.prog.info? 146).map (·.size)=some x.length):=hid (by rw[infoR7,h14]);have hz:(wr.alloc (.cells #[.int .i64 0,.int .i64 0,.int .i64 0,.int .i64 0,.int .i64 0,.int .i64 0,.int .i64 0,.int .i64 0,.int .i64 0,.int .i64 0,.int .i64 0,.int .i64 0,.int .i64 0,.int .i64 0] 146)).heap[wr.heap.size]? =some (iO zeroI 146):=heap_alloc_new wr _;have hbz:=Zaa wr (.cells #[.int .i64 0,.int .i64 0,.int .i64 0,.int .i64 0,.int .i64 0,.int .i64 0,.int .i64 0,.int .i64 0,.int .i64 0,.int .i64 0,.int .i64 0,.int .i64 0,.int .i64 0,.int .i64 0] 146);have HZ:=hid hz;have HBZ:=hid hbz;have u1:=Tryz.underlying146;obtain⟨B,hf⟩:∃ B,frmI x=B:=⟨_,rfl⟩;have HF:=hid hf;have KF:=hid (rForm_is h14 B hf);clear hx hpk hno hrg h14 hz hbz hf;cases B
    . go_wp2_with (first
       |(with_reducible refine Zae rfl 146 (.tmp 18) rfl b (off+k*14) rfl x _ HRG.out u1 rfl HI14.out ?_)
       |(with_reducible refine Zbl rfl 146 (.tmp 6) (.tmp 19) rfl wr.heap.size rfl x zeroI rfl HX14.out HI14.out _ HZ.out ?_
         intro w4 hw4 hr4;have hrg4:=Zel hr4;have hb4:=HBZ.out.trans (hw4.below (Nat.le_refl _)))
       |(with_reducible refine Zae rfl 146 (.tmp 6) rfl wr.heap.size 0 rfl x _ hrg4 u1 rfl HI14.out ?_)
       |(go_at_call 131;refine(KF.out _).mono ?_;rintro e w5 ⟨rfl,hb5⟩))
      go_ret2;exact .inr ⟨HN1.out HF.out,rfl,(hbr.trans (hb4.mono hbr.size)).trans (hb5.mono (Nat.le_trans hbr.size hb4.size))⟩
    . have n0:=Zha HL14.out HF.out 0 (by decide)
      have n1:=Zha HL14.out HF.out 1 (by decide);have n2:=Zha HL14.out HF.out 2 (by decide);have n13:=Zha HL14.out HF.out 13 (by decide);rw[show w7 0=1 from rfl,show(256:Int) ^ 1=256 from rfl] at n0;rw[show w7 1=1 from rfl,show(256:Int) ^ 1=256 from rfl] at n1;rw[show w7 2=4 from rfl,show(256:Int) ^ 4=4294967296 from rfl] at n2;rw[show w7 13=2 from rfl,show(256:Int) ^ 2=65536 from rfl] at n13;have hcon2:=con7_two x (by omega) (by omega);have hcon3:con7 x 3=con7 x 2 ++ lowB (x.getD 2 0) 4:=rfl;have hcon14:con7 x 14=con7 x 13 ++ lowB (x.getD 13 0) 2:=rfl;have HD:=hid (fun j (hj:j<10)=>Zha HL14.out HF.out (3+j) (by omega));have HGX:=hid (fun(W:World) (h:W.heap[wr.heap.size]? =some (iO x 146)) j (hj:j<14)=>Zev h j (by rw[HL14.out];exact hj));obtain⟨a0,e0⟩:∃ a,a=x.getD 0 0:=⟨_,rfl⟩;obtain⟨a1,e1⟩:∃ a,a=x.getD 1 0:=⟨_,rfl⟩;obtain⟨a2,e2⟩:∃ a,a=x.getD 2 0:=⟨_,rfl⟩;obtain⟨a13,e13⟩:∃ a,a=x.getD 13 0:=⟨_,rfl⟩;rw[<- e0] at n0 hcon2;rw[<- e1] at n1 hcon2;rw[<- e2] at n2 hcon3;rw[<- e13] at n13 hcon14;have E0:=hid e0;have E1:=hid e1;have E2:=hid e2;have E13:=hid e13;have HC2:=hid hcon2;have HC3:=hid hcon3;have HC14:=hid hcon14;have HBB:Hid (Byt [a0,a1]):=hid (Zax fun y hy=>by simp at hy;omega);obtain⟨n00,n01⟩:=n0;obtain⟨n10,n11⟩:=n1;obtain⟨n20,n21⟩:=n2;obtain⟨n30,n31⟩:=n13;clear e0 e1 e2 e13 hcon2 hcon3 hcon14
      go_wp2_with (first
       |(with_reducible refine Zae rfl 146 (.tmp 18) rfl b (off+k*14) rfl x _ HRG.out u1 rfl HI14.out ?_)
       |(with_reducible refine Zbl rfl 146 (.tmp 6) (.tmp 19) rfl wr.heap.size rfl x zeroI rfl HX14.out HI14.out _ HZ.out ?_
         intro w4 hw4 hr4;have hrg4:=Zel hr4;have hb4:=HBZ.out.trans (hw4.below (Nat.le_refl _)))
       |(with_reducible refine Zae rfl 146 (.tmp 6) rfl wr.heap.size 0 rfl x _ hrg4 u1 rfl HI14.out ?_)
       |(go_at_call 131;refine(KF.out _).mono ?_;rintro e w5 ⟨rfl,hb5⟩
         have hr5:=(hb5.block _ (Array.getElem?_eq_some_iff.1 hr4).1).trans hr4;have hg5:wr.heap.size<w5.heap.size:=(Array.getElem?_eq_some_iff.1 hr5).1;have c0:=HGX.out _ hr5 0 (by decide);have c1:=HGX.out _ hr5 1 (by decide);rw[<- E0.out] at c0;rw[<- E1.out] at c1;have HR5:=hid hr5;have HB5:=hid (hb4.trans (hb5.mono hb4.size));clear hrg4 hb4 hb5 hw4 hr4 hr5)
       |(at_builtin
         have hbx:=Zaa w5 (.cells #[.int .u8 a0,.int .u8 a1] 5);have hsb:=bsl_cells w5 [a0,a1] HBB.out #[.int .u8 a0,.int .u8 a1] rfl 2 rfl;generalize w5.alloc (.cells #[.int .u8 a0,.int .u8 a1] 5)=w6 at hbx hsb |-
         have hown:=HOB.out.2.lt;have h56:=HB5.out.trans (hbx.mono HB5.out.size);refine Zah w6 rfl _ _ rfl w.heap.size _ (Zeg O k) rfl (HOB.out.below h56) w6 _ [a0,a1] rfl hsb (fun _ _=>rfl) (by rw[HL.out];simp;omega) (Nat.le_trans hbr.size h56.size) ?_;intro v7 w7' hob7 hb7 hg7;have hr7:=(grown_row hg7 wr.heap.size (Nat.lt_of_lt_of_le hg5 hbx.size) (fun k hk e=>by have:=hown k hk;omega)).trans ((hbx.block _ hg5).trans HR5.out);have c2:=HGX.out _ hr7 2 (by decide);rw[<- E2.out] at c2;have hg7':wr.heap.size<w7'.heap.size:=(Array.getElem?_eq_some_iff.1 hr7).1;have HR7:=hid hr7;have HB7:=hid ((hbr.trans (h56.mono hbr.size)).trans hb7);clear hbx hsb hown h56 hb7 hg7 hr7 c0 c1)
       |(go_at_call 127;refine(Zhx hob7.bsl (by rw[List.length_append,HL.out];simp;omega) a2 4 4 (by omega) (by omega) rfl n20 (by omega)).mono ?_;rintro e w8 ⟨v8,rfl,hob8,hb8⟩))
      have hr8:=(hb8.block _ hg7').trans HR7.out;have hg8:wr.heap.size<w8.heap.size:=(Array.getElem?_eq_some_iff.1 hr8).1;have h78:Below w.heap.size w w8:=HB7.out.trans (hb8.mono HB7.out.size);have hl8:(Zeg O k ++ [a0,a1]) ++ lowB a2 4=Zeg O k ++ con7 x 3:=by rw[HC3.out,HC2.out,List.append_assoc]
      rw[hl8] at hob8;have HOB8:=hid (hob8.more HB7.out.size);have HR8:=hid hr8;have HB8:=hid h78;obtain⟨g,hg⟩:∃ g,g=wr.heap.size:=⟨_,rfl⟩;rw[<- hg] at HGX HR8 hg8 |-
      have HZF:Hid (Byt [0,0,0,0]):=hid (Zba 4);clear hr8 h78 hl8 hob8 hb8 c2 hob7 HR7 HB7 HR5 HB5 HZ HBZ hg5 hg7' hg;have hbw8:Below w8.heap.size w8 w8:=Below.refl _ _;go_loopw [4,37] (fun u i wi=>∃ j:Nat,j<=10/\i=.int .i64 j/\Hid (OB wi w.heap.size u (Zeg O k ++ con7 x (3+j)))/\Below w8.heap.size w8 wi) (fun _ i _=>10-(intOf i).toNat)
      case atStart=>exact⟨0,by omega,rfl,HOB8,hbw8⟩
      case round=>
       obtain⟨j,hj,rfl,HOI,hbi⟩:=hrel;clear HOB8 hbw8;have hri:=(hbi.block _ hg8).trans HR8.out;have hwi:=HB8.out.trans (hbi.mono HB8.out.size);by_cases hlj:j<10
       . have cj:=HGX.out _ hri (3+j) (by omega)
         have nj:=HD.out j hlj;have hcj:con7 x (3+j+1)=con7 x (3+j) ++ lowB (x.getD (3+j) 0) (w7 (3+j)):=rfl;rw[w7_two,show(256:Int) ^ 2=65536 from rfl] at nj;rw[w7_two] at hcj;have hlen:(Zeg O k ++ con7 x (3+j)).length<=140737488355300:=by rw[List.length_append,HL.out,Zcf,p7_two];omega
         obtain⟨y,hy⟩:∃ y,y=x.getD (3+j) 0:=⟨_,rfl⟩;rw[<- hy] at cj nj hcj;obtain⟨nj0,nj1⟩:=nj;have HCJ:=hid hcj;have HLE:=hid hlen;have HWI:=hid hwi;have ej:(j:Int)<10:=by omega
         clear hy hcj hlen hri hwi;go_wp2_with (go_at_call 127;refine(Zhx HOI.out.bsl HLE.out y 2 2 (by omega) (by omega) rfl nj0 (by omega)).mono ?_;rintro e w9 ⟨v9,rfl,hob9,hb9⟩)
         go_roundw
         case rel=>
          refine⟨j+1,by omega,by go_num,?_,hbi.trans (hb9.mono hbi.size)⟩;show OB _ _ _ (Zeg O k ++ con7 x (3+j+1))
          rw[HCJ.out,<- List.append_assoc];exact hob9.more HWI.out.size
         case measure=>simp[intOf];omega
       . obtain rfl:j=10:=by omega
         have c13:=HGX.out _ hri 13 (by decide);rw[<- E13.out] at c13;have HO13:=HOI;change Hid (OB _ _ _ (Zeg O k ++ con7 x 13)) at HO13;have hlen:(Zeg O k ++ con7 x 13).length<=140737488355300:=by rw[List.length_append,HL.out,Zcf];have:p7 13=26:=rfl;omega
         have HLE:=hid hlen;have HWI:=hid hwi;clear hlen hri hwi HOI
         go_wp2_with (first
          |(go_at_call 127;refine(Zhx HO13.out.bsl HLE.out a13 2 2 (by omega) (by omega) rfl n30 (by omega)).mono ?_;rintro e w10 ⟨v10,rfl,hob10,hb10⟩
            have HB10:=hid (HWI.out.trans (hb10.mono HWI.out.size));have hob10':=hob10.more HWI.out.size;clear hb10 hob10)
          |(at_builtin
            have hbx:=Zaa w10 (.cells #[.int .u8 0,.int .u8 0,.int .u8 0,.int .u8 0] 5);have hsb:=bsl_cells w10 [0,0,0,0] HZF.out #[.int .u8 0,.int .u8 0,.int .u8 0,.int .u8 0] rfl 4 rfl;generalize w10.alloc (.cells #[.int .u8 0,.int .u8 0,.int .u8 0,.int .u8 0] 5)=w11 at hbx hsb |-
            have h011:=HB10.out.trans (hbx.mono HB10.out.size);refine Zah w11 rfl _ _ rfl w.heap.size _ _ rfl (hob10'.below hbx) w11 _ [0,0,0,0] rfl hsb (fun _ _=>rfl) (by rw[List.length_append,Zac];have:=HLE.out;simp only[List.length_cons,List.length_nil];omega) h011.size ?_;intro v12 w12 hob12 hb12 _))
         go_roundw
         case rel=>
          refine⟨k+1,by omega,by go_num,?_,fun j hj=>?_,h011.trans hb12⟩
          . show OB _ _ _ (Zeg O (k+1))
            rw[HPK.out,enc7,HC14.out,<- List.append_assoc,<- List.append_assoc];exact hob12
          . by_cases e:j=k
            . subst e;rw[<- HX.out];exact HF.out
            . exact HK.out j (by omega)
         case measure=>simp[intOf];omega
  . obtain rfl:k=8:=by omega
    go_wp2;go_ret2;exact .inl ⟨HYE.out HK.out,_,rfl,HOB.out,hbr⟩
theorem rEncI_any{w:World}{v:Value}{O:List (List Int)}(hs:NSl w v O):Calls Tryz.prog 83 #[v] w (EncT7 O w):=by
 by_cases h:O.length=8
 . exact rEncI_8 hs h
 . obtain⟨ao,cap,rfl⟩:=hs.shape
   refine(rEncI_len ao _ cap h).mono fun e w' ⟨he,hw⟩=>.inr ⟨?_,he,by rw[<- hw];exact Below.refl _ _⟩
   unfold allF;rw[decide_eq_false h];rfl
theorem rEncI_yes{w:World}{v:Value}{O:List (List Int)}(hs:NSl w v O)(h:allF O=true):Calls Tryz.prog 83 #[v] w fun e w'=>∃ u,e=.returned (.tuple #[u,.int .i64 0])/\OB w' w.heap.size u (encT O)/\Below w.heap.size w w':=
 (rEncI_any hs).mono fun e w' ho=>ho.elim (fun h1=>h1.2) fun h1=>by rw[h] at h1;cases h1.1
theorem belt_zero{w:World}{B g:Nat}(hg:w.heap[g]? =some (.cells (Array.replicate 256 (.int .u8 0)) 5 (0,0))):BElt w B (.slice (some ⟨g,0,none⟩) 256 256) zb:=by
 refine⟨bsl_zero hg,fun _=>⟨g,0,256,by rw[zb_length],(Array.getElem?_eq_some_iff.1 hg).1,.inr ⟨_,hg⟩⟩⟩
section
variable {ops:Array Oper}{o:Oper}{a:Act}{w:World}{K:Act->World->Prop}{Q:Exit->Act->World->Prop}{E:Prop}
end
theorem Zbm{ops:Array Oper}{rest:List Oper}{op:Oper}{a:Act}{w:World}{Q:Exit->Act->World->Prop}(hgd:op.guard=none)(x y:Operand)(ho:op.op=.store 30 x y)
 (B g n cap k:Nat) (L:List (List Int)) (l:List Int) (u:Value) (hx:a.eval x=.pointer (some ⟨g,k,none⟩)) (hy:a.eval y=u) (hown:BBR w B (.slice (some ⟨g,0,none⟩) n cap) L) (hk:k<L.length) (hu:BElt w B u l)
 (h:∀ w',BBR w' B (.slice (some ⟨g,0,none⟩) n cap) (L.set k l)->Below B w w'->Wrote w w' g->wpList Tryz.prog ops Q rest (a.put op.dst undef) w'):wpList Tryz.prog ops Q (op :: rest) a w:=by
 obtain⟨ao,cap',rfl,_⟩:=hu.1.shape;obtain⟨cur,hg,hsz,hB⟩:=hown.row;have hf:=frozen_of_row w g k _ _ hg;have hc:w.cell? ⟨g,k,none⟩=some (cur[k]'(by omega)):=by rw[cell_of_row _ _ _ _ _ _ hg];simp[show k<cur.size by omega]
 have hs:=hown.set hk hu;have hw:=Wrote.setCell w g k (.slice ao l.length cap');refine wpList_plain hgd fun K hK=>?_
 unfold Oper.wp execOp;simp only[ho,hx,hy]
 go_simp
 exact hK _ _ (h _ hs (hw.below hB) hw)
theorem rPut2_o{w0 w:World}{B:Nat}{u:Value}{l:List Int}(hs:BSl w0 u l)(hB:B<=w0.heap.size)(hl:l.length<=1000)(x:Int)(hx0:0<=x)(hx:x<=65535)(hb:Below w0.heap.size w0 w):
 Calls Tryz.prog 127 #[u,.int .u64 x,.int .i64 2] w fun e w'=>∃ v,e=.returned v/\OB w' B v (l ++ lowB x 2)/\Below w0.heap.size w0 w':=
 (Zhx (hs.below hb) (by omega) x 2 2 (by omega) (by omega) rfl hx0 (by omega)).mono fun e w' ⟨v,he,hob,hb2⟩=>⟨v,he,hob.more (Nat.le_trans hB hb.size),hb.trans (hb2.mono hb.size)⟩
set_option maxHeartbeats 2000000 in
theorem rrPage_64o{w:World}{b off cap:Nat}{O:List (Int × Int)}(hO:O.length=64)(hB:OwB O)(hb:b<w.heap.size)
 (hc:∀ j,j<O.length->w.cell? ⟨b,off+j*2,none⟩=some (.int .u16 (O.getD j (0,0)).1)/\w.cell? ⟨b,off+j*2+1,none⟩=some (.int .u16 (O.getD j (0,0)).2))
 (hall:frmK O 64=true):Calls Tryz.prog 77 #[.slice (some ⟨b,off,none⟩) 64 cap] w fun e w'=>∃ v,e=.returned (.tuple #[v,.int .i64 0])/\OB w' w.heap.size v (Zcs O)/\Below w.heap.size w w':=by
 have HC:=hid hc;have HO:=hid hO;have HBB:=hid hB;have HAL:=hid ((frmK_iff O 64).1 hall);have hpo:Zcs O=Zdq O 64:=by unfold Zcs;rw[hO]
 have HPO:=hid hpo;clear hc hO hB hall hpo;go_enter Tryz.func77,Tryz.ntmps77;go_wp2;go_loopw [4,11] (fun u i wr=>∃ k:Nat,k<=64/\i=.int .i64 k/\Hid (OB wr w.heap.size u (Zdq O k))/\Below w.heap.size w wr) (fun _ i _=>64-(intOf i).toNat)
 case atStart=>exact⟨0,by omega,rfl,(⟨Zfb,World.ownsRow_nil _ _ _ _⟩:OB _ _ _ []),Below.refl _ _⟩
 case round=>
  obtain⟨k,hk,rfl,HU,hbr⟩:=hrel;by_cases hlt:k<64
  . have hck:=HC.out k (by rw[HO.out];exact hlt)
    have hbd:=HBB.out k;have hj:frmJ O k=frmO (O.getD k (0,0)).1 (O.getD k (0,0)).2:=rfl;obtain⟨x,hx⟩:∃ x,x=(O.getD k (0,0)).1:=⟨_,rfl⟩;obtain⟨y,hy⟩:∃ y,y=(O.getD k (0,0)).2:=⟨_,rfl⟩;rw[<- hx,<- hy] at hck hbd hj;have c1:=(hbr.cell (p:=⟨b,off+k*2,none⟩) hb).trans hck.1;have c2:=(hbr.cell (p:=⟨b,off+k*2+1,none⟩) hb).trans hck.2;have ek:(k:Int)<64:=by omega
    have HPK:=hid (Zje O k x y hx hy);have hpl:=Zcw O k;have HL1:Hid ((Zdq O k).length<=1000):=hid (by omega);have HL2:Hid ((Zdq O k ++ lowB x 2).length<=1000):=hid (by rw[List.length_append,Zac];omega);clear hx hy hck hpl;have hfk:=HAL.out k hlt;rw[hj] at hfk;have HF:=hid hfk;clear hfk hj;go_wp2_with (go_at_call 126;refine(rrForm_is x y hbd.1 hbd.2 true HF.out _).mono ?_;rintro e w2 ⟨rfl,hb2⟩)
    have b0:b<wr.heap.size:=Nat.lt_of_lt_of_le hb hbr.size;have b2:b<w2.drew.heap.size:=Nat.lt_of_lt_of_le b0 hb2.size;have hbd2:Below wr.heap.size wr w2.drew:=hb2.drew;have d1:w2.drew.cell? ⟨b,off+k*2,none⟩=some (.int .u16 x):=(hbd2.cell (p:=⟨b,off+k*2,none⟩) b0).trans c1;have d2:w2.drew.cell? ⟨b,off+k*2+1,none⟩=some (.int .u16 y):=(hbd2.cell (p:=⟨b,off+k*2+1,none⟩) b0).trans c2;have HC1:=hid (fun W (h:Below wr.heap.size wr W)=>(hbr.trans (h.mono hbr.size)));have HX:=hid (fun W (h:Below wr.heap.size wr W)=>And.intro ((h.cell (p:=⟨b,off+k*2,none⟩) b0).trans c1) ((h.cell (p:=⟨b,off+k*2+1,none⟩) b0).trans c2));have HP1:=hid (fun W (h:Below wr.heap.size wr W)=>rPut2_o (B:=w.heap.size) HU.out.bsl hbr.size HL1.out x hbd.1.1 hbd.1.2 h);have hwx:IntKind.u64.wrap x=x:=u64_in x hbd.1.1 (by omega);have hwy:IntKind.u64.wrap y=y:=u64_in y hbd.2.1 (by omega);clear c1 c2 hb2 b2
    go_region_held3 (fun W=>W.cell? ⟨b,off+k*2,none⟩=some (.int .u16 x)/\W.cell? ⟨b,off+k*2+1,none⟩=some (.int .u16 y)) (first|exact⟨f1,f2⟩|exact⟨e1,e2⟩|exact⟨d1,d2⟩) (first
     |(go_at_call 127;(with_reducible refine(HP1.out _ hbd2).mono ?_);rintro e w3 ⟨v3,rfl,hs3,hb3⟩
       obtain⟨e1,e2⟩:=HX.out _ hb3;have HP2:=hid (fun W (h:Below w3.heap.size w3 W)=>rPut2_o (B:=w.heap.size) hs3.bsl (Nat.le_trans hbr.size hb3.size) HL2.out y hbd.2.1 hbd.2.2 h))
     |(go_at_call 127;(with_reducible refine(HP2.out _ (Below.refl _ _)).mono ?_);rintro e w4 ⟨v4,rfl,hs4,hb4⟩
       obtain⟨f1,f2⟩:=HX.out _ (hb3.trans (hb4.mono hb3.size))))
    go_wp2_with fail
    go_roundw
    case rel=>exact⟨k+1,by omega,by go_num,by show OB _ _ _ (Zdq O (k+1));rw[HPK.out];exact hs4,HC1.out _ (hb3.trans (hb4.mono hb3.size))⟩
    case measure=>simp[intOf];omega
  . obtain rfl:k=64:=by omega
    go_wp2;go_ret2;exact⟨_,rfl,by rw[HPO.out];exact HU.out,hbr⟩
theorem rrPage_own{w:World}{v:Value}{O:List (Int × Int)}(hs:OwSl w v O)(h:allO O=true):Calls Tryz.prog 77 #[v] w fun e w'=>∃ v,e=.returned (.tuple #[v,.int .i64 0])/\OB w' w.heap.size v (Zcs O)/\Below w.heap.size w w':=by
 have hl:=Ziq h;obtain⟨b,off,cap,rfl,hb,hc⟩:=hs.at (by omega);rw[hl];refine rrPage_64o hl hs.1 hb hc ?_;rw[allO,hl] at h
 simpa using h
structure P2 (G:List (List Int)) (O:List (Int × Int)) (kk g:Nat):Prop where
 len:G.length=64*kk
 ds:∀ h,h<g->G.getD (dscN h) []=Zhl (h:Int) (Zbe (grO O h) 64)/\G.getD (dscN h+1) []=Zcs (grO O h)
 jr:∀ i,3<=i->i<43->G.getD i []=zb
theorem P2.zero(O:List (Int × Int)){kk:Nat}(h:1<=kk):P2 (List.replicate (64*kk) zb) O kk 0:=
 ⟨List.length_replicate,fun h hh=>absurd hh (Nat.not_lt_zero _),fun i h1 h2=>by rw[List.getD_eq_getElem?_getD,List.getElem?_replicate,if_pos (by omega)];rfl⟩
theorem P2.group{G:List (List Int)}{O:List (Int × Int)}{kk g:Nat}(h:P2 G O kk g)(hg:g<kk):P2 ((G.set (dscN g) (Zhl (g:Int) (Zbe (grO O g) 64))).set (dscN g+1) (Zcs (grO O g))) O kk (g+1):=by
 have hl:=h.len;have hin:=Zjl hg;have e:∀ m,((G.set (dscN g) (Zhl (g:Int) (Zbe (grO O g) 64))).set (dscN g+1) (Zcs (grO O g))).getD m []=if m=dscN g+1 then Zcs (grO O g) else if m=dscN g then Zhl (g:Int) (Zbe (grO O g) 64) else G.getD m []:=fun m=>by
  rw[BM.getD_set _ _ _ _ _ (by rw[List.length_set];omega),BM.getD_set _ _ _ _ _ (by omega)]
 refine⟨by rw[List.length_set,List.length_set];exact hl,fun x hx=>?_,fun i h1 h2=>?_⟩
 . by_cases he:x=g
   . subst he
     exact⟨by rw[e,if_neg (by omega),if_pos rfl],by rw[e,if_pos rfl]⟩
   . have hne:=dscN_ne he
     obtain⟨a,b⟩:=h.ds x (by omega);exact⟨by rw[e,if_neg hne.2.2,if_neg hne.1];exact a,by rw[e,if_neg (by omega),if_neg hne.2.1];exact b⟩
 . rw[e,if_neg (by unfold dscN;split <;> omega),if_neg (by unfold dscN;split <;> omega)];exact h.jr i h1 h2
theorem P2.other{G:List (List Int)}{O:List (Int × Int)}{kk g:Nat}(h:P2 G O kk g){i:Nat}(hi:i=0\/(43<=i/\i<64))(x:List Int):P2 (G.set i x) O kk g:=by
 have hl:=h.len;have e:∀ m,m≠i->(G.set i x).getD m []=G.getD m []:=fun m hm=>by rw[List.getD_eq_getElem?_getD,List.getElem?_set_ne (Ne.symm hm),<- List.getD_eq_getElem?_getD]
 refine⟨by rw[List.length_set];exact hl,fun y hy=>?_,fun j h1 h2=>?_⟩
 . obtain⟨a,b⟩:=h.ds y hy
   have h1:dscN y≠i/\dscN y+1≠i:=by unfold dscN;split <;> omega
   exact⟨by rw[e _ h1.1];exact a,by rw[e _ h1.2];exact b⟩
 . rw[e _ (by omega)];exact h.jr j h1 h2
theorem run_slice_ow(w:World)(b off n cap l h:Nat)(h1:l<=h)(h2:h<=cap)(h3:l<cap):
 (Instr.sliceAt 105 (.slice (some ⟨b,off,none⟩) n cap) (some (.int .i64 (l:Int))) (some (.int .i64 (h:Int))) none).run Tryz.prog w=.ok (.slice (some ⟨b,off+l*2,none⟩) (h-l) (cap-l)) w:=by
 obtain⟨i,g2,g3,g4,g5⟩:=info_parts infoOw;have hne:cap≠l:=by omega
 have ee:Tryz.prog.elem 105=109:=by kernel_rfl
 have hs:(sizeOf 109).run Tryz.prog w=.ok 2 w:=by simp[sizeOf,typeInfo,g2,g4]
 rw[run_sliceAt_slice w 105 _ _ _ _ (by rw[ee];exact Tryz.underlying105),run_slice_lh w 105 _ n cap (by rw[ee];exact Tryz.underlying105) .i64 .i64 (l:Int) (h:Int) (by omega) (by omega) (by omega),ee,hs];simp[sliced,hne,Addr.add_lit]
theorem wpList_slice_ows{w:World}{ops:Array Oper}{rest:List Oper}{o:Oper}{a:Act}{Q:Exit->Act->World->Prop}(hgd:o.guard=none)(x lo hi:Operand)(ho:o.op=.slice 105 x (some lo) (some hi) none)
 (b off n cap:Nat) (hx:a.eval x=.slice (some ⟨b,off,none⟩) n cap) (L H:Int) (hl:a.eval lo=.int .i64 L) (hh:a.eval hi=.int .i64 H) (l h m:Nat) (hm:h-l=m) (hL:L=l) (hH:H=h) (h1:l<=h) (h2:h<=cap) (h3:l<cap) (of:Nat) (hof:off+l*2=of)
 (hK:wpList Tryz.prog ops Q rest (a.put o.dst (.slice (some ⟨b,of,none⟩) m (cap-l))) w):wpList Tryz.prog ops Q (o :: rest) a w:=by
 subst hL hH hm hof;refine wpList_plain hgd fun K hK'=>?_
 unfold Oper.wp execOp;simp only[ho,hx,hl,hh,Option.map_some,Option.map_none,run_slice_ow w b off n cap l h h1 h2 h3,Sem.run_bind,Sem.run_pure,Result.andThen_ok];exact hK' _ _ hK
theorem infoRNz:(Tryz.prog.info? 146).map (fun i=>(i.zero,i.size,i.bytes))=some (some (.agg #[.int .i64 0,.int .i64 0,.int .i64 0,.int .i64 0,.int .i64 0,.int .i64 0,.int .i64 0,.int .i64 0,.int .i64 0,.int .i64 0,.int .i64 0,.int .i64 0,.int .i64 0,.int .i64 0]),14,112):=by kernel_rfl
theorem Zhg(w:World){ops:Array Oper}{rest:List Oper}{o:Oper}{a:Act}{Q:Exit->Act->World->Prop}
 (hg:o.guard=none) (l c:Operand) (hop:o.op=Op.makeSlice 145 l c) (C:Int) (n:Nat) (hl:a.eval l=.int .i64 C) (hc:a.eval c=.int .i64 C) (hC:C=n) (hn:n<=1000000)
 (hK:wpList Tryz.prog ops Q rest (a.put o.dst (.slice (some ⟨w.heap.size,0,none⟩) n n)) (w.alloc (.cells (nC (List.replicate n zeroI)).toArray 146))):
 wpList Tryz.prog ops Q (o :: rest) a w:=by
 refine wpList_plain hg fun K hK'=>?_
 obtain⟨i,h2,h3,h4,h5⟩:=info_parts infoRNz;subst hC;have hrun:=run_make (P:=Tryz.prog) w 145 146 i (.agg #[.int .i64 0,.int .i64 0,.int .i64 0,.int .i64 0,.int .i64 0,.int .i64 0,.int .i64 0,.int .i64 0,.int .i64 0,.int .i64 0,.int .i64 0,.int .i64 0,.int .i64 0,.int .i64 0]) Tryz.underlying145 h2 h3 .i64 .i64 n n (by omega) (by omega) (by rw[h5];omega) (by omega);unfold Oper.wp;simp only[Int.toNat_natCast,h4,made_ino] at hrun;simp[execOp,hop,hl,hc,hrun,Result.andThen];exact hK' _ _ hK
theorem owSl_part{w:World}{go:Nat}{kk g cap:Nat}(hgo:go<w.heap.size)(hg:g<kk)(hc:∀ j,j<64*kk->w.cell? ⟨go,j*2,none⟩=some (.int .u16 (tabJ (64*kk) j).1)/\w.cell? ⟨go,j*2+1,none⟩=some (.int .u16 (tabJ (64*kk) j).2)):
 OwSl w (.slice (some ⟨go,64*g*2,none⟩) 64 cap) (grO (newO kk) g):=by
 have hl:(grO (newO kk) g).length=64:=Zdu (Zas _ _) hg;have e:∀ j,j<64->(grO (newO kk) g).getD j (0,0)=tabJ (64*kk) (64*g+j):=fun j hj=>by
  rw[Zik _ _ hj];exact Zdz _ _ _ (by omega)
 refine⟨owB_of fun j hj=>?_,.inr ⟨⟨go,64*g*2,none⟩,cap,by rw[hl],fun j hj=>?_⟩⟩
 . rw[e j (by omega)];exact tabJ_bd _ _
 . rw[hl] at hj
   obtain⟨a,b⟩:=hc (64*g+j) (by omega);refine⟨hgo,rfl,?_,?_⟩
   . rw[e j hj]
     show w.cell? ⟨go,64*g*2+j*2,none⟩=_
     rw[show 64*g*2+j*2=(64*g+j)*2 by omega];exact a
   . rw[e j hj]
     show w.cell? ⟨go,64*g*2+j*2+1,none⟩=_
     rw[show 64*g*2+j*2+1=(64*g+j)*2+1 by omega];exact b
theorem BB2.low{w w':World}{B E:Nat}{v:Value}{G:List (List Int)}(h:BB2 w B E v G)(hb:Below w.heap.size w w'):BB2 w' B E v G:=by
 obtain⟨vs,hl,hr,ho⟩:=h;exact⟨vs,hl,fun j hj=>(hr j hj).below hb,Zcx ho fun g hg=>hb.block g (World.ownsRow.lt ho g hg).2⟩
theorem BB2.shape0{w:World}{B E:Nat}{v:Value}{G:List (List Int)}(h:BB2 w B E v G)(h0:0<G.length):∃ g cap,v=.slice (some ⟨g,0,none⟩) G.length cap/\B<=g/\g<w.heap.size:=by
 obtain⟨vs,hl,hr,ho⟩:=h;rcases ho.2 with⟨_,e0⟩| ⟨g,cap,cur,rfl,hB,hg,_⟩
 . omega
 . exact⟨g,cap,rfl,hB,(Array.getElem?_eq_some_iff.1 hg).1⟩
theorem supL_full(n:Int){k:Nat}(h:49<=k):supL n k=[n,0,0,0,0,0,43,44,45,46,47,48]:=by
 have e:tblL k=[43,44,45,46,47,48]:=by
  unfold tblL;apply List.ext_getElem (by simp);intro i h1 h2;simp only[List.getElem_map,List.getElem_range];simp at h1;rw[if_pos (by omega)];have:i=0\/i=1\/i=2\/i=3\/i=4\/i=5:=by omega
  rcases this with rfl|rfl|rfl|rfl|rfl|rfl <;> rfl
 unfold supL;rw[e];rfl
theorem rSuper_at{kk:Nat}(h1:1<=kk)(h2:kk<=12)(w:World):Calls Tryz.prog 82 #[.int .i64 (64*(kk:Int))] w fun e w'=>e=.returned (.agg #[.int .i64 (64*(kk:Int)),.int .i64 0,.int .i64 0,.int .i64 0,.int .i64 0,.int .i64 0,.int .i64 43,.int .i64 44,.int .i64 45,.int .i64 46,.int .i64 47,.int .i64 48])/\Below w.heap.size w w':=by
 have:=rSuper_is h1 h2 w;rw[supL_full _ (by omega)] at this;exact this
theorem rEncS_new{kk:Nat}(h1:1<=kk)(h2:kk<=12)(w:World):Calls Tryz.prog 84 #[.agg #[.int .i64 (64*(kk:Int)),.int .i64 0,.int .i64 0,.int .i64 0,.int .i64 0,.int .i64 0,.int .i64 43,.int .i64 44,.int .i64 45,.int .i64 46,.int .i64 47,.int .i64 48]] w fun e w'=>∃ u,e=.returned (.tuple #[u,.int .i64 0])/\OB w' w.heap.size u (encS (newS kk))/\Below w.heap.size w w':=by
 have hT:Top (newS kk):=fun i=>by
  unfold num newS;by_cases hi:i<12
  . have:i=0\/i=1\/i=2\/i=3\/i=4\/i=5\/i=6\/i=7\/i=8\/i=9\/i=10\/i=11:=by omega
    rcases this with rfl|rfl|rfl|rfl|rfl|rfl|rfl|rfl|rfl|rfl|rfl|rfl <;> simp <;> omega
  . rw[List.getD_eq_getElem?_getD,List.getElem?_eq_none (by simp;omega)];decide
 refine(rEnc_of (L:=newS kk) rfl hT w).mono fun e w' he=>?_
 rcases he with⟨_,v,h1,h2,h3⟩| ⟨h0,_,_⟩
 . exact⟨v,h1,h2,h3⟩
 . rw[newS_frm h1 h2] at h0;cases h0
theorem infoRN14:(Tryz.prog.info? 146).map (·.size)=some 14:=by kernel_rfl
theorem sup_tab{W:World}{g:Nat}{n:Int}{T:TypeId}(h:W.heap[g]? =some (.cells #[.int .i64 n,.int .i64 0,.int .i64 0,.int .i64 0,.int .i64 0,.int .i64 0,.int .i64 43,.int .i64 44,.int .i64 45,.int .i64 46,.int .i64 47,.int .i64 48] T (0,0))){k:Nat}(hk:k<6):W.cell? ⟨g,6+k,none⟩=some (.int .i64 ((43+k:Nat):Int)):=by
 rw[cell_of_row _ _ _ _ _ _ h];have:k=0\/k=1\/k=2\/k=3\/k=4\/k=5:=by omega
 rcases this with rfl|rfl|rfl|rfl|rfl|rfl <;> rfl
set_option maxHeartbeats 4000000 in
theorem rFresh_is{kk:Nat}(h1:1<=kk)(h2:kk<=12)(w:World):Calls Tryz.prog 44 #[.int .i64 (64*(kk:Int)),.int .i64 (64*(kk:Int))] w fun e w'=>∃ v G,e=.returned v/\BBR w' 0 v G/\P2 G (newO kk) kk kk/\New3 G kk/\Below w.heap.size w w':=by
 have KN:=hid (fun(W:World)=>rSpNew_at h1 h2 W);have KG:=hid (fun(W:World)=>rGroups_yes kk h1 h2 W);have KSu:=hid (fun(W:World)=>rSuper_at h1 h2 W);have KES:=hid (fun(W:World)=>rEncS_new h1 h2 W);obtain⟨M8,hM8⟩:∃ M:Nat,M=8:=⟨_,rfl⟩;have HM8:Hid ((8:Int)=(M8:Int)):=hid (by omega);have hM8':1<M8:=by omega
 have hM82:M8<=1000:=by omega
 have HA0:Hid (allF ((List.replicate M8 zeroI).set 1 [2,1,0,0,0,0,0,0,0,0,0,0,0,0])=true/\encT ((List.replicate M8 zeroI).set 1 [2,1,0,0,0,0,0,0,0,0,0,0,0,0])=encT (inT newN 0)):=hid (by subst hM8;exact⟨newT_frm.1,rfl⟩);have HA1:Hid (allF (List.replicate M8 zeroI)=true/\∀ k,k<6->k≠0->encT (List.replicate M8 zeroI)=encT (inT newN k)):=hid (by subst hM8;exact⟨newT_frm.2,fun k h h0=>by rw[newT_other h h0]⟩);clear hM8;have HOK:=hid (newO_ok h1 h2);obtain⟨M,hM⟩:∃ M:Nat,M=256:=⟨_,rfl⟩;have HM:Hid ((256:Int)=(M:Int)):=hid (by omega);have hM2:M<=1000:=by omega
 have HBZ:Hid (∀ (W:World) (B g:Nat),W.heap[g]? =some (.cells (Array.replicate M (.int .u8 0)) 5 (0,0))->BElt W B (.slice (some ⟨g,0,none⟩) M M) zb):=hid (by subst hM;exact fun W B g h=>belt_zero h);clear hM;go_enter Tryz.func44,Tryz.ntmps44;go_wp2;go_loopw [5,23] (fun v i wr=>∃ k:Nat,k<=64*kk/\i=.int .i64 k/\Hid (BB2 wr w.heap.size 0 v (List.replicate k zb))/\Below w.heap.size w wr) (fun _ i _=>64*kk-(intOf i).toNat)
 case atStart=>exact⟨0,by omega,rfl,⟨[],rfl,fun j hj=>absurd hj (Nat.not_lt_zero _),World.ownsRow_nil _ _ _ _⟩,Below.refl _ _⟩
 case round=>
  obtain⟨k,hk,rfl,HV,hbr⟩:=hrel;by_cases hlt:k<64*kk
  . have hlt':(k:Int)<64*(kk:Int):=by omega
    have hbz:=Zaa wr (.cells (Array.replicate M (.int .u8 0)) 5);have HE:=hid (HBZ.out (wr.alloc (.cells (Array.replicate M (.int .u8 0)) 5)) 0 wr.heap.size (heap_alloc_new wr _));have HV2:=hid (HV.out.low hbz);have HZ:Hid (List.replicate (k+1) zb=List.replicate k zb ++ [zb]):=hid List.replicate_succ';have HL:Hid ((List.replicate k zb).length<=100000):=hid (by rw[List.length_replicate];omega);have hsz:=hbr.size
    go_wp2_with (first
     |(at_make;refine Zay _ rfl _ _ rfl _ M rfl rfl HM.out (by omega) ?_)
     |(at_builtin;refine Zeh 96 Tryz.underlying96 (wr.alloc (.cells (Array.replicate M (.int .u8 0)) 5)) (.slice (some ⟨wr.heap.size,0,none⟩) M M) zb rfl (.tmp 25) (.tmp 27) rfl w.heap.size 0 (Nat.zero_le _) _ (List.replicate k zb) rfl HV2.out HE.out _ rfl (by simp) HL.out (by simp;omega) ?_;intro v' w4 hv4 hb4;have HV4:Hid (BB2 w4 w.heap.size 0 v' (List.replicate (k+1) zb)):=hid (by rw[HZ.out];exact hv4);have HB4:=hid ((hbr.trans (hbz.mono hsz)).trans hb4);clear hv4 hb4))
    go_roundw
    case rel=>exact⟨k+1,by omega,by go_num,HV4,HB4.out⟩
    case measure=>simp[intOf];omega
  . obtain rfl:k=64*kk:=by omega
    obtain⟨g0,cap0,ev,hg0,hg0l⟩:=HV.out.shape0 (by rw[List.length_replicate];omega);rw[List.length_replicate] at ev;subst ev;have HV1:=hid (HV.out.lower (Nat.zero_le _)).bbr;clear HV
    go_wp2_with (first
     |(go_at_call 75;refine(KN.out _).mono ?_;rintro e w3 ⟨b,go,capo,Ms,rfl,hR,c1,hab,hag,hMs,hbl,hgl,hcap,hcc,hb3⟩)
     |(go_at_call 76;refine(KG.out _).mono ?_;rintro e w' ⟨rfl,rfl⟩))
    have HP0:Hid (∃ G,BBR w3 0 (.slice (some ⟨g0,0,none⟩) (64*kk) cap0) G/\P2 G (newO kk) kk 0):=hid ⟨_,HV1.out.below hb3,P2.zero _ h1⟩;have HB0:Hid (Below w.heap.size w w3/\w3.heap.size<=w3.heap.size):=hid ⟨hbr.trans (hb3.mono hbr.size),Nat.le_refl _⟩;have HC1:=hid c1;have HCC:=hid hcc;obtain⟨A,hA⟩:∃ A,A=wr.heap.size:=⟨_,rfl⟩;have HG0:Hid (w.heap.size<=g0/\g0<A):=hid (by rw[hA];exact⟨hg0,hg0l⟩);have HBG:Hid (A<=b/\A<=go/\b<w3.heap.size/\go<w3.heap.size):=hid (by rw[hA];exact⟨hab,hag,hbl,hgl⟩);clear hR c1 hMs hcc hb3 hab hag hbl hgl hg0 hg0l HV1 hbr HBZ HM hA;go_loopw [34] (fun i WI=>∃ g:Nat,g<=kk/\i=.int .i64 g/\Hid (∃ G,BBR WI 0 (.slice (some ⟨g0,0,none⟩) (64*kk) cap0) G/\P2 G (newO kk) kk g)/\Hid (∀ x,A<=x->x<w3.heap.size->WI.heap[x]? =w3.heap[x]?)/\Hid (Below w.heap.size w WI/\w3.heap.size<=WI.heap.size)) (fun i _=>kk-(intOf i).toNat)
    case atStart=>exact⟨0,by omega,rfl,HP0,hid fun _ _ _=>rfl,HB0⟩
    case round=>
     obtain⟨g,hg,rfl,HP,HF,HB⟩:=hrel;clear HP0 HB0;by_cases hgt:g<kk
     . obtain⟨G,hG,hP⟩:=HP.out
       have hGl:=hP.len;have eg:(g:Int)<12:=by omega
       have egk:(g:Int)<(kk:Int):=by omega
       have hin:=Zjl hgt;have i1:(dscN g:Int)<64*(kk:Int):=by omega
       have i2:(dscN g:Int)+1<64*(kk:Int):=by omega
       have cc1:=(World.cell?_of_block (a:=⟨b,1,none⟩) (HF.out b HBG.out.1 HBG.out.2.2.1)).trans HC1.out;have hcw:∀ j,j<64*kk->wr.cell? ⟨go,j*2,none⟩=some (.int .u16 (tabJ (64*kk) j).1)/\wr.cell? ⟨go,j*2+1,none⟩=some (.int .u16 (tabJ (64*kk) j).2):=fun j hj=>
        ⟨(World.cell?_of_block (a:=⟨go,j*2,none⟩) (HF.out go HBG.out.2.1 HBG.out.2.2.2)).trans (HCC.out j hj).1,(World.cell?_of_block (a:=⟨go,j*2+1,none⟩) (HF.out go HBG.out.2.1 HBG.out.2.2.2)).trans (HCC.out j hj).2⟩
       have hos:=owSl_part (cap:=capo-64*g) (Nat.lt_of_lt_of_le HBG.out.2.2.2 HB.out.2) hgt hcw;obtain⟨_,gA,_⟩:=HOK.out.gr hgt;obtain⟨Og,hOg⟩:∃ Og,Og=grO (newO kk) g:=⟨_,rfl⟩;obtain⟨D,hD⟩:∃ D,D=Zhl (g:Int) (Zbe Og 64):=⟨_,rfl⟩;have hP3:=hP.group hgt;rw[<- hOg] at hos gA hP3;rw[<- hD] at hP3;have KP:=hid (rrPage_own hos gA);have KO:Hid (∀ W,Below wr.heap.size wr W->Calls Tryz.prog 78 #[.int .i64 g,.slice (some ⟨go,64*g*2,none⟩) 64 (capo-64*g)] W fun e w'=>∃ aL nL cL,e=.returned (.tuple #[.agg #[.int .i64 g,.slice aL nL cL],.int .i64 0])/\KSl w' (.slice aL nL cL) (Zbe Og 64)/\Below W.heap.size W w'):=hid fun W hb=>(rrOf_good (hos.below hb) (g:Int) (by omega) (by omega) gA).mono fun e w' ⟨v,h1,h2,h3⟩=>by
        obtain⟨aL,cL,rfl⟩:=h2.ksl.shape;exact⟨_,_,_,h1,h2.ksl,h3⟩
       have KE:Hid (∀ (W:World) (v:Value),KSl W v (Zbe Og 64)->Calls Tryz.prog 79 #[.agg #[.int .i64 g,v]] W fun e w'=>∃ v,e=.returned (.tuple #[v,.int .i64 0])/\OB w' W.heap.size v D/\Below W.heap.size W w'):=hid fun W v hk=>by
        rw[hD];exact rrEnc_yes hk (g:Int) (by omega) (by omega) (Zbv _ _)
       have KGd:=hid (fun(W:World)=>rDesc_any (g:Int) W);have KGo:=hid (fun(W:World)=>rOwners_any (g:Int) W);rw[dscN_I (show g<12 by omega)] at KGd;rw[ownN_I (show g<12 by omega)] at KGo;have HGG:=hid hG;have HP3:=hid hP3;have HGL:Hid (dscN g<G.length/\dscN g+1<G.length):=hid (by omega);have hcg:64*g+64<=capo:=by omega
       clear hG hP hGl hin hcw hos gA hOg hD hP3
       go_wp2_with (first
        |(with_reducible refine wpList_slice_ows rfl (.tmp 40) (.tmp 42) (.tmp 45) rfl go 0 (64*kk) capo rfl (64*(g:Int)) (64*(g:Int)+64) rfl rfl (64*g) (64*g+64) 64 (by omega) (by omega) (by omega) (by omega) hcg (by omega) (64*g*2) (by omega) ?_)
        |(go_at_call 77;refine KP.out.mono ?_;rintro e w4 ⟨vp,rfl,hvp,hb4⟩)
        |(go_at_call 78;refine(KO.out _ hb4).mono ?_;rintro e w5 ⟨aL,nL,cL,rfl,hkl,hb5⟩;have hb45:=hb4.trans (hb5.mono hb4.size);have hbx:=Zaa w5 (.cells #[.int .i64 g,.slice aL nL cL] 139);have hkl2:=hkl.below hbx)
        |(go_at_call 79;refine(KE.out _ _ hkl2).mono ?_;rintro e w6 ⟨vd,rfl,hvd,hb6⟩;have hb46:=(hb45.trans (hbx.mono hb45.size)).trans (hb6.mono (Nat.le_trans hb45.size hbx.size));have hb466:=(hb5.trans (hbx.mono hb5.size)).trans (hb6.mono (Nat.le_trans hb5.size hbx.size));have hG6:=HGG.out.below hb46;have hvp6:=(hvp.below hb466).elt (B:=0);have hvd6:=hvd.elt (B:=0);obtain⟨cur6,hr6,_,_⟩:=hG6.row)
        |(with_reducible refine Zbm rfl (.tmp 71) (.tmp 69) rfl 0 g0 (64*kk) cap0 (dscN g) G D vd rfl rfl hG6 HGL.out.1 hvd6 ?_;intro w7 hG7 hb7 hw7;have hvp7:=hvp6.wrote hw7 (Nat.zero_le _) hr6 (by decide))
        |(with_reducible refine Zbm rfl (.tmp 72) (.tmp 70) rfl 0 g0 (64*kk) cap0 (dscN g+1) (G.set (dscN g) D) (Zcs Og) vp rfl rfl hG7 (by rw[List.length_set];exact HGL.out.2) hvp7 ?_;intro w8 hG8 hb8 hw8)
        |(go_at_call 80;refine(KGd.out _).mono ?_;rintro e w' ⟨rfl,rfl⟩)
        |(go_at_call 81;refine(KGo.out _).mono ?_;rintro e w' ⟨rfl,rfl⟩))
       have HP8:Hid (∃ G,BBR w8 0 (.slice (some ⟨g0,0,none⟩) (64*kk) cap0) G/\P2 G (newO kk) kk (g+1)):=hid ⟨_,hG8,HP3.out⟩;have HF8:Hid (∀ x,A<=x->x<w3.heap.size->w8.heap[x]? =w3.heap[x]?):=hid fun x hx1 hx2=>by
        have hne:x≠g0:=by have:=HG0.out.2;omega
        exact(hw8.2.2.2.2 x hne).trans ((hw7.2.2.2.2 x hne).trans ((hb46.block x (Nat.lt_of_lt_of_le hx2 HB.out.2)).trans (HF.out x hx1 hx2)))
       have HB8:Hid (Below w.heap.size w w8/\w3.heap.size<=w8.heap.size):=hid ⟨((HB.out.1.trans (hb46.mono HB.out.1.size)).trans (hw7.below HG0.out.1)).trans (hw8.below HG0.out.1),by
        have h1:=HB.out.2;have h2:=hb46.size;have h3:=hb7.size;have h4:=hb8.size;omega⟩
       clear hvp hvd hkl hkl2 hbx hb4 hb5 hb6 hb45 hb46 hb466 hG6 hvp6 hvd6 hr6 hG7 hb7 hw7 hvp7 hG8 hb8 hw8;go_roundw
       case rel=>exact⟨g+1,by omega,by go_num,HP8,HF8,HB8⟩
       case measure=>simp[intOf];omega
     . have e0:g=kk:=by omega
       subst e0;have HP1:=hid HP.out;have hbr:=HB.out.1;have hgs:g0<wr.heap.size:=by
        have a1:=HG0.out.2;have a2:=HBG.out.1;have a3:=HBG.out.2.2.1;have a4:=HB.out.2;omega
       clear HP HF HB hgt HBG HCC HC1 KN
       go_wp2_with (first
        |(go_at_call 82;refine(KSu.out _).mono ?_;rintro e w9 ⟨rfl,hb9⟩;have hbx:=Zaa w9 (.cells #[.int .i64 (64*(g:Int)),.int .i64 0,.int .i64 0,.int .i64 0,.int .i64 0,.int .i64 0,.int .i64 43,.int .i64 44,.int .i64 45,.int .i64 46,.int .i64 47,.int .i64 48] 143);have hnx:=heap_alloc_new w9 (.cells #[.int .i64 (64*(g:Int)),.int .i64 0,.int .i64 0,.int .i64 0,.int .i64 0,.int .i64 0,.int .i64 43,.int .i64 44,.int .i64 45,.int .i64 46,.int .i64 47,.int .i64 48] 143)))
       obtain⟨s0,hs0⟩:∃ s0,s0=w9.heap.size:=⟨_,rfl⟩;have hb90:=hb9.trans (hbx.mono hb9.size);generalize w9.alloc (.cells #[.int .i64 (64*(g:Int)),.int .i64 0,.int .i64 0,.int .i64 0,.int .i64 0,.int .i64 0,.int .i64 43,.int .i64 44,.int .i64 45,.int .i64 46,.int .i64 47,.int .i64 48] 143)=W0 at hbx hnx hb90 |-
       rw[<- hs0] at hnx |-
       have HS0:=hid hnx;have hgs0:g0<s0:=by have:=hb9.size;omega
       have HSL:Hid (s0<W0.heap.size):=hid (Array.getElem?_eq_some_iff.1 hnx).1;have HQ0:Hid (∃ G,BBR W0 0 (.slice (some ⟨g0,0,none⟩) (64*g) cap0) G/\P2 G (newO g) g g/\T3 G 0):=hid (by obtain⟨G,a,b⟩:=HP1.out;exact⟨G,a.below hb90,b,T3.zero _⟩);have HB0:Hid (Below w.heap.size w W0):=hid (hbr.trans (hb90.mono hbr.size));have HNS:Hid (∀ (W:World) (gI:Nat) (O:List (List Int)),Zgq O->O.length=M8->W.heap[gI]? =some (.cells (O.flatMap iC).toArray 146 (0,0))->NSl W (.slice (some ⟨gI,0,none⟩) M8 M8) O):=hid fun W gI O h1 h2 h3=>by
        have:=(NR.of_row (B:=0) h1 (Nat.zero_le _) h3 (by rw[h2];simp only[maxLen];omega)).sl
        rwa [h2] at this
       have hZ:Zgq (List.replicate M8 zeroI):=fun x hx=>by rw[List.eq_of_mem_replicate hx];rfl
       have HZ:=hid hZ;have HZ1:Hid (Zgq ((List.replicate M8 zeroI).set 1 [2,1,0,0,0,0,0,0,0,0,0,0,0,0])):=hid fun x hx=>by
        rcases List.mem_or_eq_of_mem_set hx with h|h
        . exact hZ x h
        . rw[h];rfl
       have HI:Hid (∀ x∈List.replicate M8 zeroI,(iC x).length=14):=hid fun x hx=>by rw[Zao];exact hZ x hx
       clear hbx hnx hb90 hb9 hs0 hZ hgs hbr HP1;go_wp2;go_loopw [76] (fun i WI=>∃ k:Nat,k<=6/\i=.int .i64 k/\Hid (WI.heap[s0]? =some (.cells #[.int .i64 (64*(g:Int)),.int .i64 0,.int .i64 0,.int .i64 0,.int .i64 0,.int .i64 0,.int .i64 43,.int .i64 44,.int .i64 45,.int .i64 46,.int .i64 47,.int .i64 48] 143 (0,0)))/\Hid (∃ G,BBR WI 0 (.slice (some ⟨g0,0,none⟩) (64*g) cap0) G/\P2 G (newO g) g g/\T3 G k)/\Hid (Below w.heap.size w WI)) (fun i _=>6-(intOf i).toNat)
       case atStart=>exact⟨0,by omega,rfl,HS0,HQ0,HB0⟩
       case round=>
        obtain⟨k,hk,rfl,HS,HQ,HB⟩:=hrel;clear HS0 HQ0 HB0;by_cases hk6:k<6
        . have ek6:(k:Int)<6:=by omega
          obtain⟨G,hG,hP,hT3⟩:=HQ.out;have hsl:=(Array.getElem?_eq_some_iff.1 HS.out).1;have hbI:=Zaa wr (.cells (nC (List.replicate M8 zeroI)).toArray 146);have hnI:(wr.alloc (.cells (nC (List.replicate M8 zeroI)).toArray 146)).heap[wr.heap.size]? =some (.cells ((List.replicate M8 zeroI).flatMap iC).toArray 146 (0,0)):=heap_alloc_new wr _;obtain⟨t,ht⟩:∃ t,t=43+k:=⟨_,rfl⟩;have htl:(t:Int)<64*(g:Int):=by omega
          have HTL:Hid (t<G.length):=hid (by rw[hP.len];omega);have HC6:Hid (∀ W,Below wr.heap.size wr W->W.cell? ⟨s0,6+k,none⟩=some (.int .i64 (t:Int))):=hid fun W hb=>by
           have h6:=(hb.block s0 hsl).trans HS.out;rw[sup_tab h6 hk6,ht]
          have HPT:Hid (∀ x,P2 (G.set t x) (newO g) g g):=hid fun x=>hP.other (.inr (by omega)) x
          have HT3:Hid (∀ x,x=encT (inT newN k)->T3 (G.set t x) (k+1)):=hid fun x hx=>by rw[ht];exact hT3.put (by rw[hP.len];omega) hx
          have HGG:=hid hG;have HS7:Hid (∀ W W',Below wr.heap.size wr W->Wrote W W' g0->W'.heap[s0]? =some (.cells #[.int .i64 (64*(g:Int)),.int .i64 0,.int .i64 0,.int .i64 0,.int .i64 0,.int .i64 0,.int .i64 43,.int .i64 44,.int .i64 45,.int .i64 46,.int .i64 47,.int .i64 48] 143 (0,0))):=hid fun W W' hb hw=>(hw.2.2.2.2 s0 (by omega)).trans ((hb.block s0 hsl).trans HS.out)
          have hbs:=HB.out.size;clear ht hG hP hsl hT3;by_cases hk0:k=0
          . subst hk0
            go_wp2_with (first
             |(at_make;refine Zhg _ rfl _ _ rfl _ M8 rfl rfl HM8.out (by omega) ?_)
             |(refine Zcg (f:=iC) (s:=14) rfl 146 (.tmp 84) (.tmp 83) rfl infoRN14 wr.heap.size 1 (List.replicate M8 zeroI) [2,1,0,0,0,0,0,0,0,0,0,0,0,0] 146 rfl rfl hnI (by rw[List.length_replicate];omega) HI.out rfl (iC_one _) ?_;intro w5 hw5 hr5;have hbN:=hbI.trans (hw5.below (Nat.le_refl _));have hns:=HNS.out w5 wr.heap.size _ HZ1.out (by rw[List.length_set,List.length_replicate]) hr5)
             |(go_at_call 83;refine(rEncI_yes hns HA0.out.1).mono ?_;rintro e w6 ⟨u,rfl,hu,hb6⟩;have hb06:=hbN.trans (hb6.mono hbN.size);have c6:=HC6.out _ hb06;have hG6:=HGG.out.below hb06;have hu6:=hu.elt (B:=0))
             |(with_reducible refine Zbm rfl (.tmp 96) (.tmp 95) rfl 0 g0 (64*g) cap0 t G _ u rfl rfl hG6 HTL.out hu6 ?_;intro w7 hG7 hb7 hw7))
            go_roundw
            case rel=>exact⟨1,by omega,rfl,hid (HS7.out _ _ hb06 hw7),hid ⟨_,hG7,HPT.out _,HT3.out _ HA0.out.2⟩,hid ((HB.out.trans (hb06.mono hbs)).trans (hw7.below HG0.out.1))⟩
            case measure=>simp[intOf]
          . have hk0b:((k:Int)==0)=false:=by simpa using hk0
            have hns:=HNS.out _ wr.heap.size _ HZ.out (by rw[List.length_replicate]) hnI;have HB1:=hid hbI
            go_wp2_with (first
             |(at_make;refine Zhg _ rfl _ _ rfl _ M8 rfl rfl HM8.out (by omega) ?_)
             |(go_at_call 83;refine(rEncI_yes hns HA1.out.1).mono ?_;rintro e w6 ⟨u,rfl,hu,hb6⟩;have hb06:=HB1.out.trans (hb6.mono HB1.out.size);have c6:=HC6.out _ hb06;have hG6:=HGG.out.below hb06;have hu6:=hu.elt (B:=0))
             |(with_reducible refine Zbm rfl (.tmp 96) (.tmp 95) rfl 0 g0 (64*g) cap0 t G _ u rfl rfl hG6 HTL.out hu6 ?_;intro w7 hG7 hb7 hw7))
            go_roundw
            case rel=>exact⟨k+1,by omega,by go_num,hid (HS7.out _ _ hb06 hw7),hid ⟨_,hG7,HPT.out _,HT3.out _ (HA1.out.2 k hk6 hk0)⟩,hid ((HB.out.trans (hb06.mono hbs)).trans (hw7.below HG0.out.1))⟩
            case measure=>simp[intOf];omega
        . obtain rfl:k=6:=by omega
          obtain⟨G,hG,hP,hT3⟩:=HQ.out;have hs:=HS.out;have HGG:=hid hG;have HGL:Hid (0<G.length/\63<G.length):=hid (by rw[hP.len];omega);have HPE:Hid (∀ x y,P2 ((G.set 0 x).set 63 y) (newO g) g g):=hid fun x y=>(hP.other (.inl rfl) x).other (.inr (by omega)) y
          have HNW:Hid (New3 ((G.set 0 (encS (newS g))).set 63 (encS (newS g))) g):=hid (hT3.sup g (by rw[hP.len];omega) rfl);have hbs:=HB.out.size;have HBB:=hid HB.out;clear hG hP hT3 HQ HS HB
          go_wp2_with (first
           |(with_reducible refine wpList_load_row rfl 143 (.tmp 15) rfl s0 rfl 143 _ (0,0) _ hs Tryz.underlying143 rfl (by rw[infoRS];simp) ?_)
           |(go_at_call 84;refine(KES.out _).mono ?_;rintro e w6 ⟨u,rfl,hu,hb6⟩;have hG6:=HGG.out.below hb6;have hu6:=hu.elt (B:=0);obtain⟨cur6,hr6,_,hg06⟩:=hG6.row)
           |(with_reducible refine Zbm rfl (.tmp 107) (.tmp 105) rfl 0 g0 (64*g) cap0 0 G (encS (newS g)) u rfl rfl hG6 HGL.out.1 hu6 ?_;intro w7 hG7 hb7 hw7;have hu7:=hu6.wrote hw7 hg06 hr6 (by decide))
           |(with_reducible refine Zbm rfl (.tmp 108) (.tmp 106) rfl 0 g0 (64*g) cap0 63 (G.set 0 (encS (newS g))) (encS (newS g)) u rfl rfl hG7 (by rw[List.length_set];exact HGL.out.2) hu7 ?_;intro w8 hG8 hb8 hw8))
          go_ret;exact⟨_,_,rfl,hG8,HPE.out _ _,HNW.out,((HBB.out.trans (hb6.mono hbs)).trans (hw7.below HG0.out.1)).trans (hw8.below HG0.out.1)⟩
theorem idxW_nil(ao:Option Addr)(cap:Nat)(f:Value)(w:World):Calls Tryz.prog 171 #[.slice ao 0 cap,f] w fun e w'=>e=.returned (.int .i64 (-1))/\w=w':=by
 go_enter Tryz.func171,Tryz.ntmps171;go_wp2
 go_loop [8] (fun i=>i=.int .i64 0) (fun _=>0)
 case atStart=>rfl
 case round=>
  subst hrel;go_wp2;go_ret;exact⟨rfl,rfl⟩
theorem delW_nil(ao:Option Addr)(cap:Nat)(f:Value)(w:World):Calls Tryz.prog 134 #[.slice ao 0 cap,f] w fun e w'=>e=.returned (.slice ao 0 cap)/\w=w':=by
 go_enter Tryz.func134,Tryz.ntmps134;go_wp2_with (go_at_call 171;refine(idxW_nil _ _ _ _).mono ?_;rintro e w' ⟨rfl,rfl⟩)
 go_ret;exact⟨rfl,rfl⟩
section
variable {w:World}{B bp bf bv:Nat}{u:Value}{F V:List (List Int)}{fu dn:Bool}{le:Int}
theorem dForget_nil(h:DskAt w B bp bf bv u F V [] fu le dn)(f:Value):Calls Tryz.prog 87 #[.pointer (some ⟨bp,0,none⟩),f] w fun e w'=>e=.returned (.tuple #[])/\DskAt w' B bp bf bv u F V [] fu le dn/\Wrote w w' bp:=by
 obtain⟨ao,cap,rfl⟩:=h.shapeU;have c2:=h.c2;have f2:=h.fr 2;have hp:=h.hp;have hw:=Wrote.setCell w bp 2 (.slice ao 0 cap);have hs:(w.setCell ⟨bp,2,none⟩ (.slice ao 0 cap)).heap[bp]? =_:=heap_setCell_same w bp 2 _ _ _ hp;have HE:Hid (DskAt (w.setCell ⟨bp,2,none⟩ (.slice ao 0 cap)) B bp bf bv (.slice ao 0 cap) F V [] fu le dn):=hid (by
  have oth:∀ {k:Nat},k≠bp->(w.setCell ⟨bp,2,none⟩ (.slice ao 0 cap)).heap[k]? =w.heap[k]? :=fun hk=>heap_setCell_other _ _ _ _ hk
  refine⟨h.bB,h.ne,by rw[hs];rfl,by rw[oth (Ne.symm h.ne.1)];exact h.hf,by rw[oth (Ne.symm h.ne.2.1)];exact h.hv,⟨h.hu.1,?_⟩,h.une,h.okF,h.okV,h.okU,h.len,h.max⟩;rcases h.hu.2 with h0| ⟨g,cap',cur,hv,hg,hh,r⟩
  . exact .inl h0
  . exact .inr ⟨g,cap',cur,hv,hg,by rw[oth (fun e=>h.une.1 (by rw[hv,<- e];rfl))];exact hh,r⟩)
 have HW:=hid hw;clear hp hs hw h;go_enter Tryz.func87,Tryz.ntmps87;go_wp2_with (go_at_call 134;refine(delW_nil _ _ _ _).mono ?_;rintro e w' ⟨rfl,rfl⟩)
 go_end0
 exact⟨rfl,HE.out,HW.out⟩
set_option maxRecDepth 100000 in
set_option maxHeartbeats 3000000 in
theorem dDamage_at(h:DskAt w B bp bf bv u F V [] fu le dn){n:Nat}(hn:n<V.length){v:Value}{l:List Int}(hv:BSl w v l)(hl:l.length=256):
 Calls Tryz.prog 45 #[.pointer (some ⟨bp,0,none⟩),.int .i64 n,v] w fun e w'=>e=.returned (.int .i64 0)/\DskAt w' B bp bf bv u (F.set n l) (V.set n l) [] fu le dn/\Fr3 w w' bp bf bv:=by
 obtain⟨W0,hW0⟩:∃ W0,W0=w.alloc (.cells #[.int .i64 n] 3):=⟨_,rfl⟩;have hb0:Below w.heap.size w W0:=by rw[hW0];exact Zaa w _
 have hx0:W0.heap[w.heap.size]? =some (.cells #[.int .i64 n] 3 (0,0)):=by rw[hW0];exact heap_alloc_new w _
 have hd0:=h.below hb0;have hv0:=hv.below hb0;have HW0:=hid hW0;have hd:decide ((0<=(n:Int)/\(n:Int)<V.length)/\l.length=256)=true:=decide_eq_true ⟨by omega,hl⟩;have KF:=hid (dFits_at hd0 n hv0);rw[hd] at KF;have KB:=hid (dBlockOf_any hv0 hl);have HL:Hid ((cB l).length=256):=by show _=_;rw[Zau,hl]
 have HBl:Hid (Blk l):=⟨hl,hv.1⟩;have HZ:=hid Zde;have x0:W0.cell? ⟨w.heap.size,0,none⟩=some (.int .i64 n):=by rw[cell_of_row _ _ _ _ _ _ hx0];rfl
 have HX:=hid hx0;have HD0:=hid hd0;have HB0:=hid hb0;have hlt:=And.intro (Array.getElem?_eq_some_iff.1 h.hp).1 (And.intro (Array.getElem?_eq_some_iff.1 h.hf).1 (Array.getElem?_eq_some_iff.1 h.hv).1);have HLT:=hid hlt;have HH:=hid h;have hn':(n:Int)<V.length:=by omega
 have hnF:n<F.length:=by have:=h.len;omega
 have hnF':(n:Int)<F.length:=by omega
 clear hW0 hb0 hx0 hd0 hv0 hv hl hd hlt h;go_enter Tryz.func45,Tryz.ntmps45;go_upto_region 1 with(fail)
 rw[HW0.out.symm]
 go_upto_region 4 with(first
  |(go_at_call 85;refine KF.out.mono ?_;rintro e w' ⟨rfl,rfl⟩)
  |(go_at_call 86;refine KB.out.mono ?_;rintro e w1 ⟨rfl,hb1⟩)
  |with_reducible refine Zej _ rfl rfl ?_
  |(refine Zdf _ rfl _ _ (by rfl) _ 151 zB (cB l) (by rfl) (by rfl) (heap_alloc_last _ _) HZ.out HL.out (Zhj l) ?_
    rw[World.setRow_alloc_new]))
 have hb2:Below W0.heap.size W0 (w1.alloc (.cells (cB l).toArray 151)):=hb1.alloc hb1.size _;obtain⟨H1,hH1⟩:∃ H1,H1=w1.heap.size:=⟨_,rfl⟩;obtain⟨xb,hxb⟩:∃ xb,xb=w.heap.size:=⟨_,rfl⟩;have hrow:(w1.alloc (.cells (cB l).toArray 151)).heap[H1]? =some (.cells (cB l).toArray 151 (0,0)):=by rw[hH1];exact heap_alloc_last _ _
 rw[<- hH1,<- hxb];have hxl:xb<W0.heap.size:=by rw[hxb];exact(Array.getElem?_eq_some_iff.1 HX.out).1
 have hlt1:bp<xb/\bf<xb/\bv<xb:=by rw[hxb];exact HLT.out
 have hxf:xb≠bf/\xb≠bv:=⟨by omega,by omega⟩;have hxH:xb<H1:=by rw[hH1];exact Nat.lt_of_lt_of_le hxl hb1.size
 have xr:(w1.alloc (.cells (cB l).toArray 151)).heap[xb]? =some (.cells #[.int .i64 n] 3 (0,0)):=(hb2.block xb hxl).trans (by rw[hxb];exact HX.out);generalize w1.alloc (.cells (cB l).toArray 151)=W1 at hb2 hrow xr |-
 have h1:=HD0.out.below hb2;have HFR0:Hid (Below w.heap.size w W1):=hid (HB0.out.trans (hb2.mono HB0.out.size));have hone2:=Zhj l;have hub:=Tryz.underlying151;have hib:(Tryz.prog.info? 151).map (·.size)=some (cB l).length:=by rw[sizeB,HL.out]
 have hlen:=HL.out;have rL:W1.rangeAt H1 0 (cB l):=Zca hrow (by rw[List.drop_zero,List.take_length]);have tF:W1.there bf (n*256) (cB l).length:=Zcp h1.hf (by rw[HL.out,Zaw (Zcc h1.okF)];omega);have x1:W1.cell? ⟨xb,0,none⟩=some (.int .i64 n):=by rw[cell_of_row _ _ _ _ _ _ xr];rfl
 have hne:=h1.ne;have hS1:W1.drew.cell? ⟨bp,0,none⟩=some (.slice (some ⟨bf,0,none⟩) F.length F.length)/\W1.drew.cell? ⟨xb,0,none⟩=some (.int .i64 n)/\W1.drew.rangeAt H1 0 (cB l)/\W1.drew.there bf (n*256) (cB l).length:=⟨h1.c0,x1,rL,tF⟩;have hS2:(W1.drew.setCells bf (n*256) (cB l)).cell? ⟨bp,0,none⟩=some (.slice (some ⟨bf,0,none⟩) F.length F.length)/\(W1.drew.setCells bf (n*256) (cB l)).cell? ⟨xb,0,none⟩=some (.int .i64 n)/\(W1.drew.setCells bf (n*256) (cB l)).rangeAt H1 0 (cB l)/\(W1.drew.setCells bf (n*256) (cB l)).there bf (n*256) (cB l).length:=
  ⟨by rw[World.cell?_setCells_out _ _ _ _ _ (fun e=>absurd e hne.1)];exact hS1.1,by rw[World.cell?_setCells_out _ _ _ _ _ (fun e=>absurd e hxf.1)];exact hS1.2.1,World.rangeAt_setCells_apart hS1.2.2.1 _ _ _ (.inl (by omega)),World.there_setCells hS1.2.2.2 _ _ _⟩
 have HD1:=hid h1;have HB2:=hid hb2;clear hH1 hxb h1 hrow xr rL tF x1 hb1 hb2 KF KB HB0 x0
 go_region_held (fun W=>W.cell? ⟨bp,0,none⟩=some (.slice (some ⟨bf,0,none⟩) F.length F.length)/\W.cell? ⟨xb,0,none⟩=some (.int .i64 n)/\W.rangeAt H1 0 (cB l)/\W.there bf (n*256) (cB l).length) (first|exact hS1|exact hS2) (fail)
 go_wp2_with fail
 obtain⟨h2,hwr⟩:=HD1.out.setF (W:=W1.drew) (Below.refl _ _).drew n hnF l HBl.out;have hr2:=hS2.2.2.1;have hx2:=hS2.2.1;have hdw:Below W1.heap.size W1 W1.drew:=(Below.refl _ _).drew;have HFR1:Hid (∀ k,k<w.heap.size->k≠bf->(W1.drew.setCells bf (n*256) (cB l)).heap[k]? =w.heap[k]?):=hid fun k hk hkf=>(hwr.2.2.2.2 k hkf).trans ((show W1.drew.heap[k]? =W1.heap[k]? from rfl).trans (HFR0.out.block k hk))
 have HFS1:Hid ((W1.drew.setCells bf (n*256) (cB l)).os=w.os/\(W1.drew.setCells bf (n*256) (cB l)).tape=w.tape/\(W1.drew.setCells bf (n*256) (cB l)).output=w.output/\w.heap.size<=(W1.drew.setCells bf (n*256) (cB l)).heap.size):=hid ⟨hwr.1.trans (hdw.os.trans HFR0.out.os),hwr.2.1.trans (hdw.tape.trans HFR0.out.tape),hwr.2.2.1.trans (hdw.output.trans HFR0.out.output),by rw[hwr.2.2.2.1];exact Nat.le_trans HFR0.out.size hdw.size⟩;generalize W1.drew.setCells bf (n*256) (cB l)=W2 at h2 hr2 hx2 HFR1 HFS1 |-
 have HD2:=hid h2;have tV:W2.there bv (n*256) (cB l).length:=Zcp h2.hv (by rw[HL.out,Zaw (Zcc h2.okV)];omega);have hS3:W2.drew.cell? ⟨bp,1,none⟩=some (.slice (some ⟨bv,0,none⟩) V.length V.length)/\W2.drew.cell? ⟨xb,0,none⟩=some (.int .i64 n)/\W2.drew.rangeAt H1 0 (cB l)/\W2.drew.there bv (n*256) (cB l).length:=⟨h2.c1,hx2,hr2,tV⟩;have hS4:(W2.drew.setCells bv (n*256) (cB l)).cell? ⟨bp,1,none⟩=some (.slice (some ⟨bv,0,none⟩) V.length V.length)/\(W2.drew.setCells bv (n*256) (cB l)).cell? ⟨xb,0,none⟩=some (.int .i64 n)/\(W2.drew.setCells bv (n*256) (cB l)).rangeAt H1 0 (cB l)/\(W2.drew.setCells bv (n*256) (cB l)).there bv (n*256) (cB l).length:=
  ⟨by rw[World.cell?_setCells_out _ _ _ _ _ (fun e=>absurd e hne.2.1)];exact hS3.1,by rw[World.cell?_setCells_out _ _ _ _ _ (fun e=>absurd e hxf.2)];exact hS3.2.1,World.rangeAt_setCells_apart hS3.2.2.1 _ _ _ (.inl (by omega)),World.there_setCells hS3.2.2.2 _ _ _⟩
 clear h2 hwr hdw hS1 hS2 hr2 hx2 tV HD1 HD0
 go_region_held (fun W=>W.cell? ⟨bp,1,none⟩=some (.slice (some ⟨bv,0,none⟩) V.length V.length)/\W.cell? ⟨xb,0,none⟩=some (.int .i64 n)/\W.rangeAt H1 0 (cB l)/\W.there bv (n*256) (cB l).length) (first|exact hS3|exact hS4) (fail)
 go_wp2_with fail
 obtain⟨h3,hwr⟩:=HD2.out.setV (W:=W2.drew) (Below.refl _ _).drew n hn l HBl.out;have hdw:Below W2.heap.size W2 W2.drew:=(Below.refl _ _).drew;have HFR2:Hid (∀ k,k<w.heap.size->k≠bf->k≠bv->(W2.drew.setCells bv (n*256) (cB l)).heap[k]? =w.heap[k]?):=hid fun k hk hkf hkv=>(hwr.2.2.2.2 k hkv).trans ((show W2.drew.heap[k]? =W2.heap[k]? from rfl).trans (HFR1.out k hk hkf))
 have HFS2:Hid ((W2.drew.setCells bv (n*256) (cB l)).os=w.os/\(W2.drew.setCells bv (n*256) (cB l)).tape=w.tape/\(W2.drew.setCells bv (n*256) (cB l)).output=w.output/\w.heap.size<=(W2.drew.setCells bv (n*256) (cB l)).heap.size):=hid ⟨hwr.1.trans (hdw.os.trans HFS1.out.1),hwr.2.1.trans (hdw.tape.trans HFS1.out.2.1),hwr.2.2.1.trans (hdw.output.trans HFS1.out.2.2.1),by rw[hwr.2.2.2.1];exact Nat.le_trans HFS1.out.2.2.2 hdw.size⟩;generalize W2.drew.setCells bv (n*256) (cB l)=W3 at h3 HFR2 HFS2 |-
 have KFo:=hid (fun f=>dForget_nil h3 f);clear hS3 hS4 hwr hdw h3;go_wp2_with (go_at_call 87;refine(KFo.out _).mono ?_;rintro e w4 ⟨rfl,hd4,hw4⟩)
 go_ret;exact⟨rfl,hd4,⟨hw4.1.trans HFS2.out.1,hw4.2.1.trans HFS2.out.2.1,hw4.2.2.1.trans HFS2.out.2.2.1,by rw[hw4.2.2.2.1];exact HFS2.out.2.2.2,fun k hk h1 h2 h3=>(hw4.2.2.2.2 k h1).trans (HFR2.out k hk h2 h3)⟩⟩
end
theorem kDamage{w:World}{P:Nat->Prop}{p:Value}{s:DS}(h:Dk w P p s)(hU:s.U=[]){n:Nat}(hn:n<s.F.length){v:Value}{l:List Int}(hv:BSl w v l):
 Calls Tryz.prog 45 #[p,.int .i64 n,v] w fun e w'=>(∃ x,e=.returned (.int .i64 x))/\Dk w' P p { s with F:=if l.length=256 then s.F.set n l else s.F }/\Chg P P w w':=by
 obtain⟨bp,bf,bv,u,rfl,hd,hl,hP⟩:=h;obtain⟨F,U,fu,le,dn⟩:=s;simp only at hU hn hd hl;subst hU;have hvis:(⟨F,[],fu,le,dn⟩:DS).vis=F:=rfl;rw[hvis] at hd;by_cases h256:l.length=256
 . rw[if_pos h256]
   refine(dDamage_at hd hn hv h256).mono fun e w' ⟨he,h2,hf⟩=>⟨⟨0,he⟩,⟨bp,bf,bv,u,rfl,h2,hl,hP⟩,⟨hf.os,hf.tape,hf.output,hf.size,fun k hk hn'=>⟨hf.block k hk (fun e=>hn' ((hP k).2 (.inl e))) (fun e=>hn' ((hP k).2 (.inr (.inl e)))) (fun e=>hn' ((hP k).2 (.inr (.inr (.inl e))))),hn'⟩⟩⟩
 . rw[if_neg h256]
   have hb:=Zaa w (.cells #[.int .i64 n] 3);have KF:=hid (dFits_at (hd.below hb) n (hv.below hb));rw[decide_eq_false (fun h=>h256 h.2)] at KF;have HE:Hid (∀ w',Below w.heap.size w w'->Dk w' P (.pointer (some ⟨bp,0,none⟩)) ⟨F,[],fu,le,dn⟩):=hid fun w' hb'=>⟨bp,bf,bv,u,rfl,hd.below hb',hl,hP⟩
   have HB:=hid hb;clear hd hl hP hv hb h256 hvis;refine Calls.mono (R:=fun e w'=>e=.returned (.int .i64 1)/\Below w.heap.size w w') ?_ fun e w' ⟨he,hb'⟩=>⟨⟨1,he⟩,HE.out w' hb',Chg.of_below hb'⟩
   clear HE;go_enter Tryz.func45,Tryz.ntmps45;go_wp2_with (go_at_call 85;refine KF.out.mono ?_;rintro e w' ⟨rfl,rfl⟩)
   go_ret;exact⟨rfl,HB.out⟩
end Go.Proofs.YtedabomlfcghoaaGreat
