/- What the law rests on: part 15. -/
import Derived.Test.YtedabomlfcghoaaGreatKG14
set_option linter.unusedVariables false
namespace Go.Proofs.YtedabomlfcghoaaGreat
set_option maxRecDepth 100000
open Go.RowKit
def DecR7(l:List Int)(w:World)(e:Ending)(w':World):Prop:=
 (hasT l/\∃ g,e=.returned (.tuple #[.slice (some ⟨g,0,none⟩) 8 8,.int .i64 0])/\w.heap.size<=g/\w'.heap[g]? =some (.cells (nC (rdT l 8)).toArray 47 (0,0))/\Below w.heap.size w w')\/
 (¬ hasT l/\e=.returned (.tuple #[.slice none 0 0,.int .i64 18])/\Below w.heap.size w w')
theorem iEnc_yes{w:World}{v:Value}{O:List (List Int)}(hs:NSl w v O)(h:allF O=true):Calls Tryz.prog 91 #[v] w fun e w'=>∃ u,e=.returned (.tuple #[u,.int .i64 0])/\OB w' w.heap.size u (encT O)/\Below w.heap.size w w':=
 (iEnc_any hs).mono fun e w' ho=>ho.elim (fun h1=>h1.2) fun h1=>by rw[h] at h1;cases h1.1
theorem iEnc_no{w:World}{v:Value}{O:List (List Int)}(hs:NSl w v O)(h:allF O=false):Calls Tryz.prog 91 #[v] w fun e w'=>e=.returned (.tuple #[.slice none 0 0,.int .i64 1])/\Below w.heap.size w w':=
 (iEnc_any hs).mono fun e w' ho=>ho.elim (fun h1=>by rw[h] at h1;cases h1.1) fun h1=>h1.2
set_option maxHeartbeats 2000000 in
theorem iDec_row{w:World}{v:Value}{l:List Int}(hs:BSl w v l)(hl:l.length=256):Calls Tryz.prog 110 #[v] w (DecR7 l w):=by
 obtain⟨b,off,cap,rfl,hcap,hb⟩:=hs.open' (by omega);obtain⟨M,hMM⟩:∃ M:Nat,M=8:=⟨_,rfl⟩;have HMI:Hid ((8:Int)=(M:Int)):=hid (by omega);have hM1:M<=1000:=by omega
 have HM:=hid hMM;have HS:=hid hs;have HL:=hid hl;have HMID:=hid (fun W (h:BSl W (.slice (some ⟨b,off,none⟩) l.length cap) l) lo (hm:lo+32<=l.length)=>h.mid lo 32 hm);rw[hl] at HS HMID hcap |-
 clear hMM hs hl;go_enter Tryz.func110,Tryz.ntmps110;go_wp2_with (at_make;refine wpList_make_ino _ rfl _ _ rfl _ M rfl rfl HMI.out (by omega) ?_)
 have hz:(w.alloc (.cells (nC (List.replicate M zeroI)).toArray 47)).heap[w.heap.size]? =some (.cells (nC (Zdi l M 0)).toArray 47 (0,0)):=by
  rw[rdTill7_zero];exact heap_alloc_new w _
 have hb2:Below w.heap.size w (w.alloc (.cells (nC (List.replicate M zeroI)).toArray 47)):=Zaa _ _;generalize w.alloc (.cells (nC (List.replicate M zeroI)).toArray 47)=w2 at hz hb2 |-
 have HZ:=hid hz;clear hz;go_loopw [14] (fun i wr=>∃ k:Nat,k<=M/\i=.int .i64 k/\Hid (wr.heap[w.heap.size]? =some (.cells (nC (Zdi l M k)).toArray 47 (0,0)))/\Below w.heap.size w wr) (fun i _=>M-(intOf i).toNat)
 case atStart=>exact⟨0,by omega,rfl,HZ,hb2⟩
 case round=>
  obtain⟨k,hk,rfl,HR,hbr⟩:=hrel;clear HZ hb2;by_cases hlt:k<M
  . have ekM:(k:Int)<(M:Int):=by omega
    have hk8:k<8:=by have:=HM.out;omega
    have hsr:=HMID.out _ (HS.out.below hbr) (32*k) (by omega);have hch:(l.drop (32*k)).take 32=chunk l k:=rfl;rw[hch] at hsr;have KR:=hid (iRead_of hsr (chunk_length HL.out k hk8));have hps:=rdTill7_set l M k;have hj:rdJ l k=rd7 (chunk l k):=rfl;rw[hj] at hps;have hx14:=Zii (chunk l k);obtain⟨x,hx⟩:∃ x,x=rd7 (chunk l k):=⟨_,rfl⟩;rw[<- hx] at KR hps hx14;have HPS:=hid hps;have HX14:=hid hx14;have H14:=hid (flat14 (rdTill7_14 l M k));have HLK:Hid (k<(Zdi l M k).length):=hid (by rw[Zdx];exact hlt);have e32:32*k+32-32*k=32:=by omega
    have ee1:(k:Int)*32=((32*k:Nat):Int):=by push_cast;omega
    have ee2:((k:Int)+1)*32=((32*k+32:Nat):Int):=by push_cast;omega
    have HE32:=hid e32;have HE1:=hid ee1;have HE2:=hid ee2;have hc1:32*k+32<=cap:=by omega
    have hgl:w.heap.size<wr.heap.size:=(Array.getElem?_eq_some_iff.1 HR.out).1;clear hx hps hj hx14 hsr hch e32 ee1 ee2
    go_wp2_with (first
     |(with_reducible refine Zen rfl (.tmp 19) (.tmp 21) (.tmp 24) rfl b off 256 cap rfl ((k:Int)*32) (((k:Int)+1)*32) rfl rfl (32*k) (32*k+32) 32 HE32.out HE1.out HE2.out (by omega) hc1 (by omega) ?_)
     |(go_at_call 153;refine KR.out.mono ?_;rintro e w3 ⟨rfl,hb3⟩
       have hr3:w3.heap[w.heap.size]? =some (.cells ((Zdi l M k).flatMap iC).toArray 47 (0,0)):=(hb3.block _ hgl).trans HR.out)
     |(with_reducible refine Zcg (f:=iC) (s:=14) rfl 47 (.tmp 27) (.tmp 26) rfl infoN7 w.heap.size k (Zdi l M k) x 47 rfl rfl hr3 HLK.out H14.out (by rw[Zao];exact HX14.out) (iC_one x) ?_
       intro w4 hw4 hr4;rw[HPS.out] at hr4))
    go_roundw
    case rel=>exact⟨k+1,by omega,by go_num,hr4,(hbr.trans (hb3.mono hbr.size)).trans (hw4.below (Nat.le_refl _))⟩
    case measure=>simp[intOf];omega
  . have hr:=HR.out
    have hkM:k=M:=by omega
    rw[hkM,rdTill7_full] at hr;have hob:=NR.of_row (B:=w.heap.size) (rdT_14 l M) (Nat.le_refl _) hr (by rw[Zld];simp only[maxLen];omega);rw[Zld] at hob;have hob2:NSl wr (.slice (some ⟨w.heap.size,0,none⟩) M M) (rdT l 8):=by
     have:=hob.sl;rw[show rdT l 8=rdT l M by rw[HM.out]];exact this
    have HOB:Hid (wr.heap[w.heap.size]? =some (.cells (nC (rdT l 8)).toArray 47 (0,0))):=hid (by rw[show rdT l 8=rdT l M by rw[HM.out]];exact hr);have HBR:=hid hbr;clear hr hob;cases hf:allF (rdT l 8)
    . have HF:=hid hf
      have KE:=hid (iEnc_no hob2 hf);clear hf hob2;go_wp2_with (go_at_call 91;refine KE.out.mono ?_;rintro e w3 ⟨rfl,hb3⟩)
      go_ret2;exact .inr ⟨(fun h=>by have h2:=h.2.1;rw[HF.out] at h2;cases h2),rfl,hbr.trans (hb3.mono hbr.size)⟩
    . have HF:=hid hf
      have KE:=hid (iEnc_yes hob2 hf);obtain⟨B,hB⟩:∃ B,decide (encT (rdT l 8)=l)=B:=⟨_,rfl⟩;have HB:=hid hB;have KQ:=hid (fun W u (h1:BSl W u (encT (rdT l 8))) (h2:BSl W (.slice (some ⟨b,off,none⟩) 256 cap) l)=>Zdm h1 h2);rw[hB] at KQ;clear hf hob2 hB;cases B
      . go_wp2_with (first
         |(go_at_call 91;refine KE.out.mono ?_;rintro e w3 ⟨u3,rfl,hob3,hb3⟩
           have hb03:=hbr.trans (hb3.mono hbr.size))
         |(go_at_call 99;refine(KQ.out _ _ hob3.bsl (HS.out.below hb03)).mono ?_;rintro e w4 ⟨rfl,rfl⟩))
        go_ret2;exact .inr ⟨(fun h=>of_decide_eq_false HB.out h.2.2),rfl,hb03⟩
      . go_wp2_with (first
         |(go_at_call 91;refine KE.out.mono ?_;rintro e w3 ⟨u3,rfl,hob3,hb3⟩
           have hb03:=hbr.trans (hb3.mono hbr.size))
         |(go_at_call 99;refine(KQ.out _ _ hob3.bsl (HS.out.below hb03)).mono ?_;rintro e w4 ⟨rfl,rfl⟩))
        go_ret2;exact .inl ⟨⟨HL.out,HF.out,of_decide_eq_true HB.out⟩,_,(by rw[HM.out];rfl),Nat.le_refl _,(hb3.block _ (Array.getElem?_eq_some_iff.1 HOB.out).1).trans HOB.out,hb03⟩
theorem row8_sl{w:World}{g:Nat}{O:List (List Int)}(hO:Zgq O)(h8:O.length=8)(hr:w.heap[g]? =some (.cells (nC O).toArray 47 (0,0))):NSl w (.slice (some ⟨g,0,none⟩) 8 8) O:=by
 have:=(NR.of_row (B:=g) hO (Nat.le_refl _) hr (by rw[h8];simp only[maxLen];omega)).sl
 rwa [h8] at this
end Go.Proofs.YtedabomlfcghoaaGreat
namespace Go.Proofs.YtedabomlfcghoaaGreat
set_option maxRecDepth 100000
open Go.RowKit BM
def FsAt(w:World)(bf:Nat)(p:Value):Prop:=w.heap[bf]? =some (.cells #[p] 39 (0,0))
theorem FsAt.low{w w':World}{bf:Nat}{p:Value}(h:FsAt w bf p)(hb:Below w.heap.size w w'):FsAt w' bf p:=Zad h hb
theorem FsAt.cell{w:World}{bf:Nat}{p:Value}(h:FsAt w bf p):w.cell? ⟨bf,0,none⟩=some p:=by rw[cell_of_row _ _ _ _ _ _ h];rfl
theorem FsAt.chg{w w':World}{P P':Nat->Prop}{bf:Nat}{p:Value}(h:FsAt w bf p)(hc:Chg P P' w w')(hn:¬ P bf):FsAt w' bf p/\¬ P' bf:=by
 have:=hc.keep bf (Array.getElem?_eq_some_iff.1 h).1 hn;exact⟨this.1.trans h,this.2⟩
theorem SInv.xok{w:World}{P:Nat->Prop}{d p:Value}{X:XSt}(h:SInv w P d p X):XOk X:=by
 obtain⟨_,_,_,_,_,_,_,_,_,_,_,_,_,hpl,_⟩:=h;exact hpl.ok
theorem Zey{w:World}{bf:Nat}{p:Value}(h:FsAt w bf p):Calls Tryz.prog 92 #[.pointer (some ⟨bf,0,none⟩)] w fun e w'=>e=.returned p/\w=w':=by
 have hc:=h.cell;clear h;go_enter Tryz.func92,Tryz.ntmps92;go_wp2;go_ret;exact⟨rfl,rfl⟩
theorem sGet_cur{w:World}{P:Nat->Prop}{d p:Value}{X:XSt}{E:List Int}{n:Nat}(h:SInv w P d p X)(hn:n<X.cur.length)(ho:OutJ n)(hE:X.cur.getD n []=E){W:World}(hb:Below w.heap.size w W):
 Calls Tryz.prog 61 #[p,.int .i64 (n:Nat)] W fun e w'=>∃ v,e=.returned (.tuple #[v,.int .i64 0])/\BSl w' v E/\Below W.heap.size W w':=
 (sGet_own (h.low hb) (n:=n) (by rw[<- h.xok.curLen];exact hn)).mono fun e w' ⟨v,l,a,b,c,f⟩=>⟨v,a,by rw[<- hE];exact(c ho) ▸ b,f⟩
theorem sDec_encT{w:World}{v:Value}{L:List Int}(hs:BSl w v (encS L))(hL:L.length=12)(hf:frmS L=true):Calls Tryz.prog 109 #[v] w fun e w'=>e=.returned (.tuple #[supV L,.int .i64 0])/\Below w.heap.size w w':=by
 obtain⟨h1,h2⟩:=has_enc hL hf;refine(sDec_of hs).mono fun e w' ⟨hb,ho⟩=>⟨?_,hb⟩
 rcases ho with⟨_,he⟩| ⟨hn,_⟩
 . rw[he,h2]
 . exact absurd h1 hn
theorem iDec_enc{w:World}{v:Value}{O:List (List Int)}(hs:BSl w v (encT O))(hO:Zgq O)(hf:allF O=true):Calls Tryz.prog 110 #[v] w fun e w'=>∃ g,e=.returned (.tuple #[.slice (some ⟨g,0,none⟩) 8 8,.int .i64 0])/\w.heap.size<=g/\w'.heap[g]? =some (.cells (nC O).toArray 47 (0,0))/\Below w.heap.size w w':=by
 refine(iDec_row hs (encT_len O)).mono fun e w' ho=>?_
 rcases ho with⟨_,g,he,hg,hr,hb⟩| ⟨hn,_⟩
 . rw[rdT_enc hO hf] at hr
   exact⟨g,he,hg,hr,hb⟩
 . exact absurd (has_enc7 hO hf) hn
section
variable {w:World}{P:Nat->Prop}{d p:Value}{X:XSt}{S:List Int}{N:List (List Int)}{bf:Nat}
theorem fsSuper_of(h:SInv w P d p X)(hf:FsAt w bf p)(hT:Tab X.cur S N){W:World}(hb:Below w.heap.size w W):
 Calls Tryz.prog 63 #[.pointer (some ⟨bf,0,none⟩)] W fun e w'=>e=.returned (.tuple #[supV S,.int .i64 0])/\Below W.heap.size W w':=by
 have hin:=Zdh hT.sf (t:=0) (by decide);have hle:=hT.le;have hb1:=Zaa W (supO Zbp 118);have hr1:=heap_alloc_new W (supO Zbp 118);obtain⟨w1,hw1⟩:∃ w1,w1=W.alloc (supO Zbp 118):=⟨_,rfl⟩;rw[<- hw1] at hb1 hr1;have h1:W.alloc (.cells #[.int .i64 0,.int .i64 0,.int .i64 0,.int .i64 0,.int .i64 0,.int .i64 0,.int .i64 0,.int .i64 0,.int .i64 0,.int .i64 0,.int .i64 0,.int .i64 0] 118)=w1:=by rw[hw1];rfl
 have hb01:=hb.trans (hb1.mono hb.size);have H1:=hid h1;have KB:=hid (Zey (hf.low hb01));have KG:=hid (sGet_cur (n:=0) h (by omega) (.inl (by decide)) hT.g0 hb01);have KD:=hid (fun(W:World) (v:Value) (hs:BSl W v (encS S))=>sDec_encT hs hT.s12 hT.sf);have h12:=hT.s12;have HR1:Hid (∀ V,Below w1.heap.size w1 V->V.heap[W.heap.size]? =some (supO Zbp 118)):=hid fun V hv=>Zad hr1 hv
 clear hf hT hin hle h hb hb01 h1 hw1 hr1;go_enter Tryz.func63,Tryz.ntmps63
 go_wp2_with (first
  |(go_at_call 92;rw[H1.out];refine KB.out.mono ?_;rintro e w' ⟨rfl,rfl⟩)
  |(go_at_call 61;refine KG.out.mono ?_;rintro e w2 ⟨v,rfl,hv,hb2⟩)
  |(go_at_call 109;refine(KD.out _ _ hv).mono ?_;rintro e w3 ⟨rfl,hb3⟩)
  |(with_reducible refine Zaq rfl (.tmp 6) (.tmp 20) rfl w3.heap.size rfl S Zbp rfl h12 rfl _ (heap_alloc_new w3 _) ?_
    intro w5 hw5 hr5;have hb5:Below w3.heap.size w3 w5:=(Zaa w3 _).trans (hw5.below (Nat.le_refl _));have hb15:=(hb2.trans (hb3.mono hb2.size)).trans (hb5.mono (Nat.le_trans hb2.size hb3.size));have hr6:=HR1.out _ hb15)
  |(with_reducible refine Zcu rfl (.tmp 6) rfl w3.heap.size rfl S h12 _ hr5 ?_)
  |(with_reducible refine Zaq rfl (.tmp 2) (.tmp 25) rfl W.heap.size rfl S Zbp rfl h12 rfl _ hr6 ?_;intro w7 hw7 hr7))
 exact bodyPost_ret (Zjr rfl _ _ W.heap.size _ _ _ h12 rfl hr7 rfl) rfl ⟨rfl,(hb1.trans (hb15.mono hb1.size)).trans (hw7.below (Nat.le_refl _))⟩
theorem fsInodes_of(h:SInv w P d p X)(hf:FsAt w bf p)(hT:Tab X.cur S N){t:Nat}(ht:t<6){W:World}(hb:Below w.heap.size w W):
 Calls Tryz.prog 64 #[.pointer (some ⟨bf,0,none⟩),.int .i64 (Zbq S t:Nat)] W fun e w'=>∃ g,e=.returned (.tuple #[.slice (some ⟨g,0,none⟩) 8 8,.int .i64 0])/\W.heap.size<=g/\w'.heap[g]? =some (.cells (nC (inT N t)).toArray 47 (0,0))/\Below W.heap.size W w':=by
 have hin:=Zdh hT.sf ht;have hle:=hT.le;obtain⟨h14,hal⟩:=hT.n.all ht;obtain⟨T,hTT⟩:∃ T,T=inT N t:=⟨_,rfl⟩;obtain⟨k,hk⟩:∃ k,k=Zbq S t:=⟨_,rfl⟩;have hg:=hT.tb t ht;rw[<- hTT] at h14 hal hg |-
 rw[<- hk] at hin hg |-
 have KB:=hid (Zey (hf.low hb));have KG:=hid (sGet_cur (n:=k) h (by omega) hin.2.2.2.2.1 hg hb);have KD:=hid (fun(W:World) (v:Value) (hs:BSl W v (encT T))=>iDec_enc hs h14 hal);clear hf hT hin hle h hb hg hTT h14 hal hk;go_enter Tryz.func64,Tryz.ntmps64
 go_wp2_with (first
  |(go_at_call 92;refine KB.out.mono ?_;rintro e w' ⟨rfl,rfl⟩)
  |(go_at_call 61;refine KG.out.mono ?_;rintro e w1 ⟨v,rfl,hv,hb1⟩)
  |(go_at_call 110;refine(KD.out _ _ hv).mono ?_;rintro e w2 ⟨g,rfl,hg1,hr,hb2⟩))
 go_ret2;exact⟨g,rfl,Nat.le_trans hb1.size hg1,hr,hb1.trans (hb2.mono hb1.size)⟩
end
theorem sizeFo:(Tryz.prog.info? 84).map (·.size)=some 3:=by kernel_rfl
theorem Zhi:(Tryz.prog.info? 47).map (·.size)=some 14:=by kernel_rfl
theorem ret_ino2{fn:Func}{p u:Tmp}(h:fn.results=#[.cell p 47,.tmp u])(tmps:Array Value)(w:World)(g:Nat)(T:TypeId)(L:List Int)(x:Value)(hL:L.length=14)(hp:tmps.getD p undef=.pointer (some ⟨g,0,none⟩))(hg:w.heap[g]? =some (iO L T))(hx:tmps.getD u undef=x):
 (results fn tmps).run Tryz.prog w=.ok (.tuple #[.agg (iC L).toArray,x]) w:=by
 rw[results_cell_tmp h,hp,hx];simp only[asAddr,Sem.run_pure,Result.andThen_ok];rw[run_loadVar_row w g T 47 _ (0,0) _ hg Tryz.underlying47 rfl (by rw[Zhi];simp[iC,hL])];rfl
theorem Zch{ops:Array Oper}{rest:List Oper}{o:Oper}{a:Act}{w:World}{Q:Exit->Act->World->Prop}(hgd:o.guard=none)(x y:Operand)(ho:o.op=.store 47 x y)
 (g:Nat) (hx:a.eval x=.pointer (some ⟨g,0,none⟩)) (L M:List Int) (hy:a.eval y=.agg (iC L).toArray) (hL:L.length=14) (hM:M.length=14) (T:TypeId) (hg:w.heap[g]? =some (iO M T))
 (h:∀ w',Wrote w w' g->w'.heap[g]? =some (iO L T)->wpList Tryz.prog ops Q rest (a.put o.dst undef) w'):wpList Tryz.prog ops Q (o :: rest) a w:=
 wpList_store_row hgd 47 x y ho g _ hx hy T _ hg (by rw[Zhi];simp[iC,hL]) (by simp[iC,hL,hM]) (ints_one L) (h _ (Wrote.setRow _ _ _) (setRow_heap _ _ _ _ _ _ hg))
section
variable {w:World}{P:Nat->Prop}{d p:Value}{X:XSt}{S:List Int}{N:List (List Int)}{bf:Nat}
theorem fsFind_no{n:Int}(hn:n<1\/47<n)(f:Value)(W:World):Calls Tryz.prog 36 #[f,.int .i64 n] W fun e w'=>e=.returned (.tuple #[.agg #[.int .i64 0,.slice none 0 0,.int .i64 0],.int .i64 1])/\Below W.heap.size W w':=by
 have hb1:=Zaa W (.cells #[.int .i64 0,.slice none 0 0,.int .i64 0] 84);have hr1:=heap_alloc_new W (.cells #[.int .i64 0,.slice none 0 0,.int .i64 0] 84);obtain⟨w1,hw1⟩:∃ w1,w1=W.alloc (.cells #[.int .i64 0,.slice none 0 0,.int .i64 0] 84):=⟨_,rfl⟩;rw[<- hw1] at hb1 hr1;have H1:=hid hw1.symm;have HR1:=hid hr1;have KP:=hid (iPlace_no n hn);clear hn hw1 hr1;go_enter Tryz.func36,Tryz.ntmps36;go_upto_region 2 with(go_at_call 62;rw[H1.out];refine(KP.out _).mono ?_;rintro e w' ⟨rfl,rfl⟩)
 have hr2:=HR1.out;go_wp2_with (with_reducible refine Zag rfl 84 sizeFo (.tmp 4) (.tmp 18) rfl W.heap.size rfl _ _ _ _ _ _ rfl rfl rfl rfl _ hr2 ?_;intro w9 hw9 hr9)
 refine bodyPost_ret (Zbj rfl Tryz.underlying84 sizeFo _ _ W.heap.size _ _ _ _ _ rfl hr9 rfl) rfl ⟨rfl,hb1.trans (hw9.below (Nat.le_refl _))⟩
theorem fsFind_yes(h:SInv w P d p X)(hf:FsAt w bf p)(hT:Tab X.cur S N){n:Nat}(h0:1<=n)(h48:n<48){W:World}(hb:Below w.heap.size w W):
 Calls Tryz.prog 36 #[.pointer (some ⟨bf,0,none⟩),.int .i64 n] W fun e w'=>∃ g,e=.returned (.tuple #[.agg #[.int .i64 (Zbq S (n / 8):Nat),.slice (some ⟨g,0,none⟩) 8 8,.int .i64 (n%8:Nat)],.int .i64 0])/\W.heap.size<=g/\
  w'.heap[g]? =some (.cells (nC (inT N (n / 8))).toArray 47 (0,0))/\Below W.heap.size W w':=by
 have ht:n / 8<6:=by omega
 have hj:n%8<8:=by omega
 have e1:(n:Int) / 8=((n / 8:Nat):Int):=by omega
 have e2:(n:Int)%8=((n%8:Nat):Int):=by omega
 have KP:=hid (iPlace_yes (n:Int) (by omega) (by omega));rw[e1,e2] at KP;clear e1 e2;obtain⟨t,htt⟩:∃ t,t=n / 8:=⟨_,rfl⟩;obtain⟨j,hjj⟩:∃ j,j=n%8:=⟨_,rfl⟩;rw[<- htt] at KP ht |-
 rw[<- hjj] at KP hj |-
 clear htt hjj h0 h48;have hb1:=Zaa W (.cells #[.int .i64 0,.slice none 0 0,.int .i64 0] 84);have hr1:=heap_alloc_new W (.cells #[.int .i64 0,.slice none 0 0,.int .i64 0] 84);obtain⟨w1,hw1⟩:∃ w1,w1=W.alloc (.cells #[.int .i64 0,.slice none 0 0,.int .i64 0] 84):=⟨_,rfl⟩;rw[<- hw1] at hb1 hr1;have H1:=hid hw1.symm;have hb01:=hb.trans (hb1.mono hb.size);have HR1:Hid (∀ V,Below w1.heap.size w1 V->V.heap[W.heap.size]? =some (.cells #[.int .i64 0,.slice none 0 0,.int .i64 0] 84 (0,0))):=hid fun V hv=>Zad hr1 hv
 have KS:=hid (fsSuper_of h hf hT hb01);have HBW:=hid hb01;have KI:=hid (fun(V:World) (hv:Below w.heap.size w V)=>fsInodes_of h hf hT ht hv);have h12:=hT.s12;have hin:=(Zdh hT.sf ht).1;obtain⟨A,hA⟩:∃ A,A=Zbq S t:=⟨_,rfl⟩;obtain⟨T,hTT⟩:∃ T,T=inT N t:=⟨_,rfl⟩;rw[<- hA] at KI hin |-
 rw[<- hTT] at KI |-
 have et:(t:Int)<6:=by omega
 have et0:¬ (t:Int)<0:=by omega
 have HSC:Hid (∀ (V V':World),V.heap.size<V'.heap.size->V'.heap[V.heap.size]? =some (supO S 118)->V'.cell? ⟨V.heap.size,6+t,none⟩=some (.int .i64 A)):=hid fun V V' _ hr=>by
  rw[Zgt hr (6+t) (by omega),hin]
 clear h hf hT hb hb01 hw1 hr1 hA hTT hin ht;go_enter Tryz.func36,Tryz.ntmps36
 go_wp2_with (first
  |(go_at_call 62;rw[H1.out];refine(KP.out _).mono ?_;rintro e w' ⟨rfl,rfl⟩)
  |(go_at_call 63;refine KS.out.mono ?_;rintro e w2 ⟨rfl,hb2⟩)
  |(with_reducible refine Zaq rfl (.tmp 8) (.tmp 22) rfl w2.heap.size rfl S Zbp rfl h12 rfl _ (heap_alloc_new w2 _) ?_
    intro w3 hw3 hr3;have hb3:Below w2.heap.size w2 w3:=(Zaa w2 _).trans (hw3.below (Nat.le_refl _));have hl3:=(Array.getElem?_eq_some_iff.1 hr3).1;have hb13:=hb2.trans (hb3.mono hb2.size);have c3:=HSC.out _ _ hl3 hr3)
  |(go_at_call 64;refine(KI.out _ (HBW.out.trans (hb13.mono HBW.out.size))).mono ?_;rintro e w4 ⟨g,rfl,hg4,hr4,hb4⟩
    have hb14:=hb13.trans (hb4.mono hb13.size);have hr6:=HR1.out _ hb14;have c4:=HSC.out _ _ (Nat.lt_of_lt_of_le hl3 hb4.size) ((hb4.block _ hl3).trans hr3))
  |(with_reducible refine Zag rfl 84 sizeFo (.tmp 4) (.tmp 47) rfl W.heap.size rfl _ _ _ _ _ _ rfl rfl rfl rfl _ hr6 ?_;intro w9 hw9 hr9))
 have hne:g≠W.heap.size:=by
  have:=hb1.size;have:=hb13.size;have:=(Array.getElem?_eq_some_iff.1 (HR1.out w1 (Below.refl _ _))).1;omega
 refine bodyPost_ret (Zbj rfl Tryz.underlying84 sizeFo _ _ W.heap.size _ _ _ _ _ rfl hr9 rfl) rfl ⟨g,rfl,?_,(hw9.2.2.2.2 g hne).trans hr4,(hb1.trans (hb14.mono hb1.size)).trans (hw9.below (Nat.le_refl _))⟩;have:=hb1.size;have:=hb13.size;omega
theorem Zki(h:SInv w P d p X)(hf:FsAt w bf p)(hT:Tab X.cur S N){n:Nat}(h0:1<=n)(h48:n<48){W:World}(hb:Below w.heap.size w W):
 Calls Tryz.prog 17 #[.pointer (some ⟨bf,0,none⟩),.int .i64 n] W fun e w'=>e=.returned (.tuple #[.agg (iC (N.getD n [])).toArray,.int .i64 0])/\Below W.heap.size W w':=by
 have ht:n / 8<6:=by omega
 have hj:n%8<8:=by omega
 have hb1:=Zaa W (iO zeroI 47);have hr1:=heap_alloc_new W (iO zeroI 47);obtain⟨w1,hw1⟩:∃ w1,w1=W.alloc (iO zeroI 47):=⟨_,rfl⟩;rw[<- hw1] at hb1 hr1;have h1:W.alloc (.cells #[.int .i64 0,.int .i64 0,.int .i64 0,.int .i64 0,.int .i64 0,.int .i64 0,.int .i64 0,.int .i64 0,.int .i64 0,.int .i64 0,.int .i64 0,.int .i64 0,.int .i64 0,.int .i64 0] 47)=w1:=by rw[hw1];rfl
 have hb01:=hb.trans (hb1.mono hb.size);have H1:=hid h1;have HR1:Hid (∀ V,Below w1.heap.size w1 V->V.heap[W.heap.size]? =some (iO zeroI 47)):=hid fun V hv=>Zad hr1 hv
 have KF:=hid (fsFind_yes h hf hT h0 h48 hb01);obtain⟨A,hA⟩:∃ A,A=Zbq S (n / 8):=⟨_,rfl⟩;obtain⟨T,hTT⟩:∃ T,T=inT N (n / 8):=⟨_,rfl⟩;have hx:(inT N (n / 8)).getD (n%8) []=N.getD n []:=by rw[inT_getD N _ hj];congr 1;omega
 have hx14:=hT.n.get h48;have h14:=inT_14 hT.n.l14 (n / 8);have hl8:=Zgi hT.n.len ht;rw[<- hA,<- hTT] at KF;rw[<- hTT] at hx h14 hl8;obtain⟨x,hxx⟩:∃ x,x=N.getD n []:=⟨_,rfl⟩;rw[<- hxx] at hx hx14 |-
 obtain⟨j,hjj⟩:∃ j,j=n%8:=⟨_,rfl⟩;rw[<- hjj] at KF hj hx;have HRG:Hid (∀ (V:World) (g:Nat),V.heap[g]? =some (.cells (nC T).toArray 47 (0,0))->V.rangeAt g (j*14) (iC x)):=hid fun V g hr=>by
  have:=flat_range (f:=iC) (s:=14) (k:=j) hr (fun y hy=>by rw[Zao];exact h14 y hy) (by omega);rw[<- hx,List.getD_eq_getElem?_getD,List.getElem?_eq_getElem (by omega)];exact this
 have HX14:=hid hx14;have ej:(j:Int)<8:=by omega
 have u1:=Tryz.underlying47;clear h hf hT hb hb01 h1 hw1 hr1 hA hTT hx h14 hl8 hxx hjj ht hx14;go_enter Tryz.func17,Tryz.ntmps17
 go_wp2_with (first
  |(go_at_call 36;rw[H1.out];refine KF.out.mono ?_;rintro e w2 ⟨g,rfl,hg2,hr2,hb2⟩
    have hb23:=Zaa w2 (.cells #[.int .i64 A,.slice (some ⟨g,0,none⟩) 8 8,.int .i64 j] 84);have hb3:=hb2.trans (hb23.mono hb2.size);have hr3:=HR1.out _ hb3;have hrg:=HRG.out _ g (Zad hr2 hb23))
  |(with_reducible refine Zae rfl 47 (.tmp 22) rfl g (j*14) rfl x _ hrg u1 rfl (by rw[Zhi,HX14.out]) ?_)
  |(with_reducible refine Zch rfl (.tmp 4) (.tmp 23) rfl W.heap.size rfl x zeroI rfl HX14.out rfl _ hr3 ?_;intro w9 hw9 hr9))
 refine bodyPost_ret (ret_ino2 rfl _ _ W.heap.size _ _ _ HX14.out rfl hr9 rfl) rfl ⟨rfl,(hb1.trans (hb3.mono hb1.size)).trans (hw9.below (Nat.le_refl _))⟩
end
section
variable {w:World}{P:Nat->Prop}{d p:Value}{X:XSt}{O:List (Int × Int)}{k:Nat}
theorem spUsed_yes(h:SInv w P d p X)(hH:Has X.cur O k)(hO:OOk O k){m:Nat}(hm1:1<=m)(hm:m<=k):
 Calls Tryz.prog 13 #[p,.int .i64 (64*(m:Int))] w fun e w'=>e=.returned (.tuple #[.int .i64 (cntU O (64*m)),.int .i64 0])/\Below w.heap.size w w':=by
 have h12:=hO.k12;have KU:=hid (spUB_yes h hH hO hm1 hm);have KO:=hid (fun(W:World)=>gOpen_yes m hm1 (by omega) W);obtain⟨R,hR⟩:∃ R,R=Zbe O (64*m):=⟨_,rfl⟩;have hc:=count_used hO (64*m) (by omega);rw[<- hR] at hc KU;have h1:=cnt_all (64*m);have h2:=cntO_mul m hm1 (by omega);have KC:Hid (∀ W q r,BRow W q r R->Calls Tryz.prog 31 #[.pointer (some ⟨q,0,none⟩)] W fun e w'=>e=.returned (.int .i64 (Zcr R))/\∃ m,w'=W.drewN m):=hid fun W q r hb=>bCount_any hb
 have hcl:=Zko R;have hRl:R.length=64*m:=by rw[hR,Zbv]
 obtain⟨C,hC⟩:∃ C,C=Zcr R:=⟨_,rfl⟩;rw[<- hC] at KC hc hcl;obtain⟨U,hU⟩:∃ U,U=cntU O (64*m):=⟨_,rfl⟩;have HE:Hid ((C:Int)-(64*(m:Int)-(62*(m:Int)-42))=U):=hid (by omega);have hC2:(C:Int)<=768:=by omega
 have hm12:(m:Int)<=12:=by omega
 have hm11:(1:Int)<=m:=by omega
 rw[<- hU];clear hR hc h1 h2 hcl hRl hC hU h hH hO hm hm1 h12;go_enter Tryz.func13,Tryz.ntmps13
 go_wp2_with (first
  |(go_at_call 29;refine KU.out.mono ?_;rintro e w1 ⟨q,r,rfl,hrow,hb1⟩)
  |(go_at_call 30;refine(KO.out _).mono ?_;rintro e w' ⟨rfl,rfl⟩)
  |(go_at_call 31;refine(KC.out _ _ _ hrow).mono ?_;rintro e w2 ⟨rfl,n,rfl⟩))
 go_ret2;exact⟨by first|rfl|(rw [HE.out];rfl),Zab hb1 _⟩
theorem spFind_yes(h:SInv w P d p X)(hH:Has X.cur O k)(hO:OOk O k){m:Nat}(hm1:1<=m)(hm:m<=k)(g:Int):
 Calls Tryz.prog 205 #[p,.int .i64 (64*(m:Int)),.int .i64 g] w fun e w'=>e=.returned (.tuple #[.int .i64 (Zit O (64*m) (Zis (64*m) g)),.int .i64 0])/\Below w.heap.size w w':=by
 have KU:=hid (spUB_yes h hH hO hm1 hm);rw[<- find_is (show 0<64*m by omega)];obtain⟨R,hR⟩:∃ R,R=Zbe O (64*m):=⟨_,rfl⟩;rw[<- hR] at KU |-
 have KC:Hid (∀ W q r,BRow W q r R->Calls Tryz.prog 213 #[.pointer (some ⟨q,0,none⟩),.int .i64 g] W fun e w'=>e=.returned (.int .i64 (firstS R g))/\∃ m,w'=W.drewN m):=hid fun W q r hb=>bFirst_any hb g
 clear hR h hH hO hm hm1;go_enter Tryz.func205,Tryz.ntmps205
 go_wp2_with (first
  |(go_at_call 29;refine KU.out.mono ?_;rintro e w1 ⟨q,r,rfl,hrow,hb1⟩)
  |(go_at_call 213;refine(KC.out _ _ _ hrow).mono ?_;rintro e w2 ⟨rfl,n,rfl⟩))
 go_ret2;exact⟨rfl,Zab hb1 _⟩
theorem sizeOw:(Tryz.prog.info? 109).map (·.size)=some 2:=by kernel_rfl
theorem spOwner_yes(h:SInv w P d p X)(hH:Has X.cur O k)(hO:OOk O k){n:Nat}(hn:n<64*k):
 Calls Tryz.prog 192 #[p,.int .i64 n] w fun e w'=>e=.returned (.tuple #[.agg #[.int .u16 (O.getD n (0,0)).1,.int .u16 (O.getD n (0,0)).2],.int .i64 0])/\Below w.heap.size w w':=by
 have h12:=hO.k12;obtain⟨g,hg⟩:∃ g,g=n / 64:=⟨_,rfl⟩;obtain⟨j,hj⟩:∃ j,j=n%64:=⟨_,rfl⟩;have hgk:g<k:=by omega
 have hj64:j<64:=by omega
 have hnj:n=64*g+j:=by omega
 have KP:=hid (spPoss_is (n:Int) true (decide_eq_true (by omega)));have KG:=hid (fun(W:World)=>Zil (n:Int) (by omega) W);have eg:grpI (n:Int)=g:=by unfold grpI;rw[if_neg (by omega)];omega
 rw[eg] at KG;have hb1:=Zaa w (.cells #[.int .u16 0,.int .u16 0] 109);have hr1:=heap_alloc_new w (.cells #[.int .u16 0,.int .u16 0] 109);obtain⟨W1,hW1⟩:∃ W1,W1=w.alloc (.cells #[.int .u16 0,.int .u16 0] 109):=⟨_,rfl⟩;rw[<- hW1] at hb1 hr1;have KR:=hid (spRead_at (h.low hb1) hH hO hgk);have hz1:w.heap.size<W1.heap.size:=by rw[hW1];simp
 have e1:=Zik O g hj64;rw[<- hnj] at e1
 have KR2:Hid (Calls Tryz.prog 55 #[p,.int .i64 g] W1 fun e w'=>∃ b cap,e=.returned (.tuple #[.slice (some ⟨b,0,none⟩) 64 cap,.int .i64 0])/\b<w'.heap.size/\
  w'.cell? ⟨b,j*2,none⟩=some (.int .u16 (O.getD n (0,0)).1)/\w'.cell? ⟨b,j*2+1,none⟩=some (.int .u16 (O.getD n (0,0)).2)/\Below W1.heap.size W1 w'):=hid (KR.out.mono fun e w' ⟨b,cap,h1,h2,h3,_,h4,h5⟩=>⟨b,cap,h1,h3,by rw[<- e1];exact(h4 j hj64).1,by rw[<- e1];exact(h4 j hj64).2,h5⟩)
 obtain⟨x,hx⟩:∃ x,x=(O.getD n (0,0)).1:=⟨_,rfl⟩;obtain⟨y,hy⟩:∃ y,y=(O.getD n (0,0)).2:=⟨_,rfl⟩;rw[<- hx,<- hy] at KR2 |-
 have H1:=hid hW1.symm;have HR1:=hid hr1;have HB1:=hid hb1;have hrem:(n:Int).tmod 64=j:=by rw[Int.tmod_eq_emod_of_nonneg (by omega)];omega
 have ej:(j:Int)<64:=by omega
 have HM:Hid (w.heap.size<W1.heap.size):=hid hz1;clear h hH hO hn h12 hg hj hgk hnj eg KR e1 hx hy hW1 hr1 hb1 hz1;go_enter Tryz.func192,Tryz.ntmps192
 go_wp2_with (first
  |(go_at_call 206;refine(KP.out _).mono ?_;rintro e w' ⟨rfl,rfl⟩)
  |(go_at_call 180;refine(KG.out _).mono ?_;rintro e w' ⟨rfl,rfl⟩)
  |(go_at_call 55;rw[H1.out];refine KR2.out.mono ?_;rintro e w2 ⟨b,cap,rfl,hbl,c1,c2,hb2⟩;have hr2:=Zad HR1.out hb2)
  |(with_reducible refine Zci rfl 109 sizeOw (.tmp 4) (.tmp 27) rfl w.heap.size rfl _ _ _ _ rfl rfl rfl _ hr2 ?_;intro w5 hw5 hr5))
 refine bodyPost_ret (Zfx rfl Tryz.underlying109 sizeOw _ _ w.heap.size _ _ _ _ rfl hr5 rfl) rfl ⟨rfl,(HB1.out.trans (hb2.mono (Nat.le_of_lt HM.out))).trans (hw5.below (Nat.le_refl _))⟩
end
end Go.Proofs.YtedabomlfcghoaaGreat
namespace Go.Proofs.YtedabomlfcghoaaGreat
set_option maxRecDepth 100000
open Go.RowKit Go.Maps
theorem grown_cellS{w w':World}{m b o:Nat}(h:w.grownBy w' (some m))(hb:b<w.heap.size)(hne:b≠m):w'.cell? ⟨b,o,none⟩=w.cell? ⟨b,o,none⟩:=by
 apply World.cell?_of_block;exact h.block b hb fun e=>hne (Option.some.inj e)
theorem addS_mem{N:List Int}{n y:Int}:y∈addS N n ↔ y∈N\/y=n:=by
 unfold addS;split
 . exact⟨.inl,fun h=>h.elim id fun e=>by rw[e];assumption⟩
 . simp
section
variable {w:World}{P:Nat->Prop}{d p:Value}{X:XSt}
theorem sPut_mem{Pd:Nat->Prop}{b be bp:Nat}{q:Int}{ek:List Int}{eg:Int->Value}{ev:Int->List Int}{pk:List Int}{pg:Int->Value}{pv:Int->List Int}{ds:DS}(h:SMem w Pd b be bp d q ek eg ev pk pg pv true ds)
 {n:Int} {v:Value} {l:List Int} (hv:BSl w v l) (hl:l.length=256) (hn:0<=n/\n<ds.F.length) (h768:ds.F.length<=768) (hpl:pk.length<=37) (hroom:n∈pk\/pk.length<37):
 Calls Tryz.prog 67 #[.pointer (some ⟨b,0,none⟩),.int .i64 n,v] w fun e w'=>e=.returned (.int .i64 0)/\∃ u,SMem w' Pd b be bp d q ek eg ev (addS pk n) (fun y=>if y=n then u else pg y) (fun y=>if y=n then l else pv y) true ds/\
  (∀ g,u.ownBlock=some g->w.heap.size<=g/\g<w'.heap.size)/\w.heap.size<=w'.heap.size/\Ext (fun k=>k=bp) w w':=by
 have hwf:(Lit.int .i64 n).wf=true:=i64wf (by omega);have KA:=hid (Zcv h true);have KH:=hid (sHas_is h n);rw[decide_eq_true hn] at KH;have KL:=hid (sLoggable_is w n);rw[decide_eq_true (by omega)] at KL;have c3:=h.c3;have hlo:=h.mp.look_ok hwf;have hlen:=fun ty=>h.mp.len ty
 have KC:=hid (fun W (hb:Below w.heap.size w W)=>bClone_of (hv.below hb) (by rw[hl];decide));have HB:=hid (fun W (hb:Below w.heap.size w W)=>h.below hb);have HW:=hid hwf;have HP:=hid hpl;have HLL:=hid hl;obtain⟨ao,cap,rfl,_⟩:=hv.shape;rw[hl] at KC |-
 have HBL:=hid h.bl;have HN:Hid (b<w.heap.size/\b≠bp):=hid ⟨h.bl,fun e=>h.nb.2 e.symm⟩;refine Calls.mono (R:=fun e w'=>e=.returned (.int .i64 0)/\∃ u w3,OB w3 w.heap.size u l/\Below w.heap.size w w3/\Mp w' bp (addS pk n) (fun y=>if y=n then u else pg y)/\w3.grownBy w' (some bp)/\w'.heap.size=w3.heap.size) ?_ ?_
 . obtain⟨uu,huu⟩:∃ uu,uu=(if n∈pk then pg n else .slice none 0 0):=⟨_,rfl⟩
   rw[<- huu] at hlo;obtain⟨m,hm⟩:∃ m,m=pk.length:=⟨_,rfl⟩;rw[<- hm] at hlen HP hroom;have HM:=hid hm;by_cases hin:n∈pk
   . rw[decide_eq_true hin] at hlo
     clear h hv hn h768 hroom hpl hwf huu hin hl hm;go_enter Tryz.func67,Tryz.ntmps67
     go_wp2_with (first
      |(go_at_call 37;(with_reducible refine KA.out.mono ?_);rintro e w' ⟨rfl,rfl⟩)
      |(go_at_call 104;(with_reducible refine KH.out.mono ?_);rintro e w' ⟨rfl,rfl⟩)
      |(go_at_call 115;(with_reducible refine KL.out.mono ?_);rintro e w' ⟨rfl,rfl⟩))
     have KC1:=hid (KC.out w.drew (Zab (Below.refl _ _) 1));have d3:w.drew.cell? ⟨b,3,none⟩=some (.map (some bp)):=c3
     go_region_held3 (fun W=>W.cell? ⟨b,3,none⟩=some (.map (some bp))) (first|exact f3|exact e3|exact d3) (first
      |(go_at_call 106;(with_reducible refine KC1.out.mono ?_);rintro e w3 ⟨u,rfl,hob,hbe⟩
        have e3:=(hbe.cell (p:=⟨b,3,none⟩) HBL.out).trans c3;have HOB:=hid hob;have HBE:=hid (show Below w.heap.size w w3 from(Zab (Below.refl _ _) 1).trans hbe);obtain⟨dd,hdd⟩:=Blo.hdr (v:=u) ⟨hob.more (Nat.zero_le _),HLL.out⟩;obtain⟨w4,hrun4,hm4,hg4,hs4⟩:=(HB.out _ HBE.out).mp.store HW.out hdd (by have:=HP.out;have:=HM.out;omega);have f3:w4.cell? ⟨b,3,none⟩=some (.map (some bp)):=(grown_cellS hg4 (Nat.lt_of_lt_of_le HBL.out HBE.out.size) HN.out.2).trans e3;have HM4:=hid hm4;have HG4:=hid hg4;have HS4:=hid hs4;clear hob hbe hdd hm4 hg4 hs4))
     go_wp2;go_ret;exact⟨rfl,u,w3,HOB.out,HBE.out,HM4.out,HG4.out,HS4.out⟩
   . have hm37:(m:Int)<37:=by have:=hroom.resolve_left hin;omega
     rw[decide_eq_false hin] at hlo;clear h hv hn h768 hroom hpl hwf huu hin hl hm;go_enter Tryz.func67,Tryz.ntmps67
     go_wp2_with (first
      |(go_at_call 37;(with_reducible refine KA.out.mono ?_);rintro e w' ⟨rfl,rfl⟩)
      |(go_at_call 104;(with_reducible refine KH.out.mono ?_);rintro e w' ⟨rfl,rfl⟩)
      |(go_at_call 115;(with_reducible refine KL.out.mono ?_);rintro e w' ⟨rfl,rfl⟩))
     have KC1:=hid (KC.out w.drew (Zab (Below.refl _ _) 1));have d3:w.drew.cell? ⟨b,3,none⟩=some (.map (some bp)):=c3
     go_region_held3 (fun W=>W.cell? ⟨b,3,none⟩=some (.map (some bp))) (first|exact f3|exact e3|exact d3) (first
      |(go_at_call 106;(with_reducible refine KC1.out.mono ?_);rintro e w3 ⟨u,rfl,hob,hbe⟩
        have e3:=(hbe.cell (p:=⟨b,3,none⟩) HBL.out).trans c3;have HOB:=hid hob;have HBE:=hid (show Below w.heap.size w w3 from(Zab (Below.refl _ _) 1).trans hbe);obtain⟨dd,hdd⟩:=Blo.hdr (v:=u) ⟨hob.more (Nat.zero_le _),HLL.out⟩;obtain⟨w4,hrun4,hm4,hg4,hs4⟩:=(HB.out _ HBE.out).mp.store HW.out hdd (by have:=HP.out;have:=HM.out;omega);have f3:w4.cell? ⟨b,3,none⟩=some (.map (some bp)):=(grown_cellS hg4 (Nat.lt_of_lt_of_le HBL.out HBE.out.size) HN.out.2).trans e3;have HM4:=hid hm4;have HG4:=hid hg4;have HS4:=hid hs4;clear hob hbe hdd hm4 hg4 hs4))
     go_wp2;go_ret;exact⟨rfl,u,w3,HOB.out,HBE.out,HM4.out,HG4.out,HS4.out⟩
 . rintro e w' ⟨rfl,u,w3,hob,hbe,hmp,hgr,hsz⟩
   have h3:=HB.out w3 hbe;have hblo:Blo w3 u l:=⟨hob.more (Nat.zero_le _),HLL.out⟩;have hk:∀ k,k<w3.heap.size->k≠bp->w'.heap[k]? =w3.heap[k]? :=fun k hk hn=>hgr.block k hk fun e=>hn (Option.some.inj e)
   have hext:Ext (fun k=>k=bp) w w':=(Ext.of_below hbe).trans (P2:=fun k=>k=bp) (Ext.of_grown hgr rfl) fun x _ e=>e
   refine⟨rfl,u,⟨?_,?_,h3.q0,?_,hmp,h3.ne,?_,?_⟩,?_,hext.size,hext⟩
   . rw[hk b h3.bl fun e=>h3.nb.2 e.symm];exact h3.hb
   . exact h3.dk.same fun k hp=>hk k (h3.dk.lt k hp) fun e=>Mp.nd h3.dk h3.mp (e ▸ hp)
   . exact h3.me.keep (hk be h3.me.lt h3.ne)
   . exact fun x hx=>(h3.re x hx).keep fun g hg=>hk g ((h3.re x hx).lt hg) ((h3.re x hx).nm hg h3.mp)
   . intro x hx
     by_cases e:x=n
     . rw[if_pos e,if_pos e]
       exact hblo.keep fun g hg=>hk g (hblo.lt hg) (hblo.nm hg h3.mp)
     . rw[if_neg e,if_neg e]
       have hx':=(addS_mem.1 hx).resolve_right e;exact(h3.rp x hx').keep fun g hg=>hk g ((h3.rp x hx').lt hg) ((h3.rp x hx').nm hg h3.mp)
   . intro g hg
     have:=World.ownsRow.lt hob.2 g hg;exact⟨this.1,by rw[hsz];exact this.2⟩
theorem sPut_of(h:SInv w P d p X){n:Int}{v:Value}{l:List Int}(hv:BSl w v l)(hn: -9223372036854775808<=n/\n<=9223372036854775807)(hj:OutJ n.toNat):Calls Tryz.prog 67 #[p,.int .i64 n,v] w (XOut SInv w P d p (xPut X n l)):=by
 have h':=h;obtain⟨b,be,bp,Pd,q,ek,eg,ev,pk,pg,pv,rfl,hm,hpl,ho,hlt⟩:=h;have hFl:=hpl.ok.lst.1;have h768:=hpl.n64.2;have hwf:(Lit.int .i64 n).wf=true:=i64wf hn;have same:∀ z:Int,Calls Tryz.prog 67 #[.pointer (some ⟨b,0,none⟩),.int .i64 n,v] w (fun e w'=>e=.returned (.int .i64 z)/\w=w')->Calls Tryz.prog 67 #[.pointer (some ⟨b,0,none⟩),.int .i64 n,v] w (XOut SInv w P d (.pointer (some ⟨b,0,none⟩)) (z,X)):=fun z h=>h.mono fun e w' ⟨he,hw⟩=>by
  subst hw;exact⟨he,P,h',Chg.refl _ _⟩
 have KA:=hid (Zcv hm true);have KH:=hid (sHas_is hm n);have KL:=hid (sLoggable_is w n);obtain⟨ao,cap,hvv,_⟩:=hv.shape;unfold xPut;cases hw:X.wi
 . rw[if_pos rfl]
   refine same 17 ?_;rw[hw] at KA;clear h' hm hpl ho hlt hFl h768 same hv hj hn KH KL hwf;go_enter Tryz.func67,Tryz.ntmps67;go_wp2_with (go_at_call 37;(with_reducible refine KA.out.mono ?_);rintro e w' ⟨rfl,rfl⟩)
   go_ret;exact⟨rfl,rfl⟩
 . rw[if_neg (by decide)]
   rw[hw] at KA hm;obtain⟨hput,hcl,hcv⟩:=hpl.wi1 hw;by_cases ha:n<0\/(X.is.length:Int)<=n\/l.length≠256
   . rw[if_pos ha]
     refine same 1 ?_;by_cases hr:0<=n/\n<X.ds.F.length
     . rw[decide_eq_true hr] at KH
       rw[decide_eq_true (by omega)] at KL;have hl:¬ (l.length:Int)=256:=by omega
       obtain⟨L,hL⟩:∃ L,L=l.length:=⟨_,rfl⟩;rw[<- hL] at hvv hl;subst hvv;clear h' hm hpl ho hlt hFl h768 same hv hj hn hwf hput hcl hcv ha hr hL;go_enter Tryz.func67,Tryz.ntmps67
       go_wp2_with (first
        |(go_at_call 37;(with_reducible refine KA.out.mono ?_);rintro e w' ⟨rfl,rfl⟩)
        |(go_at_call 104;(with_reducible refine KH.out.mono ?_);rintro e w' ⟨rfl,rfl⟩)
        |(go_at_call 115;(with_reducible refine KL.out.mono ?_);rintro e w' ⟨rfl,rfl⟩))
       go_ret;exact⟨rfl,rfl⟩
     . rw[decide_eq_false hr] at KH
       clear h' hm hpl ho hlt hFl h768 same hv hj hn hwf hput hcl hcv ha hr KL;go_enter Tryz.func67,Tryz.ntmps67
       go_wp2_with (first
        |(go_at_call 37;(with_reducible refine KA.out.mono ?_);rintro e w' ⟨rfl,rfl⟩)
        |(go_at_call 104;(with_reducible refine KH.out.mono ?_);rintro e w' ⟨rfl,rfl⟩))
       go_ret;exact⟨rfl,rfl⟩
   . rw[if_neg ha]
     have hr:0<=n/\n<X.ds.F.length:=by omega
     have hl:l.length=256:=by omega
     by_cases hf:n ∉ X.put/\37<=X.put.length
     . rw[if_pos hf]
       refine same 13 ?_;rw[hput] at hf;rw[decide_eq_true hr] at KH;rw[decide_eq_true (by omega)] at KL;have c3:=hm.c3;have hlo:=hm.mp.look_ok hwf;have hlen:=fun ty=>hm.mp.len ty
       rw[if_neg hf.1,decide_eq_false hf.1] at hlo;have hm37:37<=(pk.length:Int):=by omega
       obtain⟨m,hmm⟩:∃ m,m=pk.length:=⟨_,rfl⟩;rw[<- hmm] at hlen hm37;rw[hl] at hvv;subst hvv;clear h' hm hpl ho hlt hFl h768 same hv hj hn hwf hput hcl hcv ha hr hf hl hmm;go_enter Tryz.func67,Tryz.ntmps67
       go_wp2_with (first
        |(go_at_call 37;(with_reducible refine KA.out.mono ?_);rintro e w' ⟨rfl,rfl⟩)
        |(go_at_call 104;(with_reducible refine KH.out.mono ?_);rintro e w' ⟨rfl,rfl⟩)
        |(go_at_call 115;(with_reducible refine KL.out.mono ?_);rintro e w' ⟨rfl,rfl⟩))
       go_ret;exact⟨rfl,rfl⟩
     . rw[if_neg hf]
       refine(sPut_mem hm hv hl hr (by omega) hpl.pl ?_).mono ?_
       . rw[hput] at hf
         by_cases hin:n∈pk
         . exact .inl hin
         . refine .inr ?_
           have:¬ 37<=pk.length:=fun h=>hf ⟨hin,h⟩
           omega
       . rintro e w' ⟨rfl,u,hm',hu,hsz,hext⟩
         have hP:∀ k,k=bp->P k:=fun k e=>ho k (.inr (.inr (.inr (.inl e))))
         refine⟨rfl,grP P w w',⟨b,be,bp,Pd,q,ek,eg,ev,addS pk n,_,_,rfl,hm',?_,?_,?_⟩,(hext.sub hP).chg⟩
         . have hnn:((n.toNat:Nat):Int)=n:=Int.toNat_of_nonneg hr.1
           refine { hpl with ok:={ hpl.ok with call:=fun _=>by show(X.call.set _ _).length=_;rw[List.length_set];exact hcl },kp:=?_,pl:=?_,wi0:=fun e=>Bool.noConfusion (show true=false from e),wi1:=fun _=>⟨?_,?_,?_⟩ }
           . intro x hx
             rcases addS_mem.1 hx with hx|rfl
             . exact hpl.kp x hx
             . exact⟨hr.1,by show x<(X.is.length:Int);omega,hj⟩
           . unfold addS
             split
             . exact hpl.pl
             . rename_i hin
               have:¬ 37<=pk.length:=fun h=>hf (by rw[hput];exact⟨hin,h⟩)
               rw[List.length_append,List.length_singleton];omega
           . show addS X.put n=addS pk n
             rw[hput]
           . show(X.call.set _ _).length=_
             rw[List.length_set];exact hcl
           . intro i hoi hi
             have hi':i<X.is.length:=hi;show(X.call.set n.toNat l).getD i []=_
             by_cases e:n.toNat=i
             . subst e
               rw[List.getD_eq_getElem?_getD,List.getElem?_set_self (by omega),if_pos (addS_mem.2 (.inr hnn)),if_pos hnn];rfl
             . have hne:(i:Int)≠n:=fun e'=>e (by omega)
               rw[List.getD_eq_getElem?_getD,List.getElem?_set_ne e,<- List.getD_eq_getElem?_getD,hcv i hoi hi'];by_cases hin:(i:Int)∈pk
               . rw[if_pos hin,if_pos (addS_mem.2 (.inl hin)),if_neg hne]
               . rw[if_neg hin,if_neg fun h=>hin ((addS_mem.1 h).resolve_right hne)]
         . intro k hk
           rcases hk with hk|rfl|rfl|rfl| ⟨x,hx,hg⟩| ⟨x,hx,hg⟩
           . exact .inl (ho k (.inl hk))
           . exact .inl (ho _ (.inr (.inl rfl)))
           . exact .inl (ho _ (.inr (.inr (.inl rfl))))
           . exact .inl (ho _ (.inr (.inr (.inr (.inl rfl)))))
           . exact .inl (ho k (.inr (.inr (.inr (.inr (.inl ⟨x,hx,hg⟩))))))
           . by_cases e:x=n
             . have hg:(if x=n then u else pg x).ownBlock=some k:=hg
               rw[if_pos e] at hg;exact .inr (hu k hg)
             . have hg:(if x=n then u else pg x).ownBlock=some k:=hg
               rw[if_neg e] at hg;exact .inl (ho k (.inr (.inr (.inr (.inr (.inr ⟨x,(addS_mem.1 hx).resolve_right e,hg⟩))))))
         . rintro k (hk|hk)
           . exact Nat.lt_of_lt_of_le (hlt k hk) hsz
           . exact hk.2
end
end Go.Proofs.YtedabomlfcghoaaGreat
namespace Go.Proofs.YtedabomlfcghoaaGreat
set_option maxRecDepth 100000
open Go.RowKit
theorem splice_take{α:Type}{cur vs:List α}{o n:Nat}(h:o+vs.length<=n)(hn:n<=cur.length):(splice cur o vs).take n=splice (cur.take n) o vs:=by
 apply List.ext_getElem?;intro i;unfold splice;by_cases h1:i<n
 . rw[List.getElem?_take,if_pos h1]
   have e1:(List.take o cur).length=o:=by rw[List.length_take];omega
   have e2:(List.take o (List.take n cur)).length=o:=by rw[List.length_take,List.length_take];omega
   rw[List.getElem?_append,List.getElem?_append (l₁:=List.take o (List.take n cur)),e1,e2];by_cases h2:i<o
   . rw[if_pos h2,if_pos h2,List.getElem?_take,List.getElem?_take,if_pos h2,if_pos h2,List.getElem?_take,if_pos h1]
   . rw[if_neg h2,if_neg h2,List.getElem?_append,List.getElem?_append]
     by_cases h3:i-o<vs.length
     . rw[if_pos h3,if_pos h3]
     . rw[if_neg h3,if_neg h3,List.getElem?_drop,List.getElem?_drop,List.getElem?_take,if_pos (by omega)]
 . rw[List.getElem?_eq_none (by simp;omega),List.getElem?_eq_none (by simp;omega)]
theorem Zhf{ops:Array Oper}{rest:List Oper}{op:Oper}{a:Act}{w:World}{Q:Exit->Act->World->Prop}(hgd:op.guard=none)(x y:Operand)(ho:op.op=.store 109 x y)
 (g k:Nat) (O:List (Int × Int)) (cur:Array Value) (i j:Int) (hx:a.eval x=.pointer (some ⟨g,k*2,none⟩)) (hy:a.eval y=.agg #[.int .u16 i,.int .u16 j])
 (hg:w.heap[g]? =some (.cells cur 109 (0,0))) (hc:cur.toList.take (O.length*2)=ownC O) (hs:O.length*2<=cur.size) (hk:k<O.length)
 (h:∀ w' cur',Wrote w w' g->w'.heap[g]? =some (.cells cur' 109 (0,0))->cur'.size=cur.size->cur'.toList.take (O.length*2)=ownC (O.set k (i,j))->wpList Tryz.prog ops Q rest (a.put op.dst undef) w'):wpList Tryz.prog ops Q (op :: rest) a w:=by
 have hz:(Tryz.prog.info? 109).map (·.size)=some 2:=by kernel_rfl
 have hg':w.heap[g]? =some (.cells cur.toList.toArray 109 (0,0)):=by rw[Array.toArray_toList];exact hg
 have hl:k*2+(cO (i,j)).length<=cur.toList.length:=by rw[show(cO (i,j)).length=2 from rfl];simpa using (show k*2+2<=cur.size by omega)
 have h1:∀ v∈cO (i,j),v.oneCell'=true:=fun v hv=>by simp[cO] at hv;rcases hv with rfl|rfl <;> rfl
 refine wpList_store_mid hgd 109 x y ho g (k*2) #[.int .u16 i,.int .u16 j] hx hy (Zcp hg' hl) (by rw[hz];rfl) (all_oneCell_toArray (cs:=cO (i,j)) h1) ?_;have e:=Zbx hg' hl h1;rw[show(#[Value.int .u16 i,Value.int .u16 j]:Array Value).toList=cO (i,j) from rfl,e];refine h _ (splice cur.toList (k*2) (cO (i,j))).toArray (Wrote.setRow _ _ _) (setRow_heap _ _ _ _ _ _ hg) ?_ ?_
 . simp[splice,cO];omega
 . rw[List.toList_toArray,splice_take (show k*2+2<=_ by omega) (by rw[Array.length_toList];exact hs),hc,ownC,Zio (f:=cO) (s:=2) (fun x _=>cO_len x) k hk (i,j) (cO_len _)]
   rfl
section
variable {w:World}{M:Nat->Prop}{p:Value}{n:Int}{O:List (Int × Int)}
theorem RSp.row(h:RSp w M p n O)(h0:0<O.length):∃ b g cap cur,p=.pointer (some ⟨b,0,none⟩)/\w.heap[b]? =some (.cells #[.int .i64 n,.slice (some ⟨g,0,none⟩) O.length cap] 135 (0,0))/\w.heap[g]? =some (.cells cur 109 (0,0))/\cur.toList.take (O.length*2)=ownC O/\O.length<=cap/\cap<=maxLen/\cur.size=cap*2/\OwB O/\∀ k,M k ↔ k=b\/k=g:=by
 obtain⟨b,v,rfl,hb,⟨hB,ho⟩,hM⟩:=h;rcases ho.2 with⟨_,e0⟩| ⟨g,cap,cur,rfl,_,hg,hnc,hcm,hcs,ht⟩
 . omega
 . refine⟨b,g,cap,cur,rfl,hb,hg,ht,hnc,hcm,hcs,hB,fun k=>(hM k).trans ?_⟩
   simp only[Value.ownBlock,Option.some.injEq];exact⟨fun h=>h.imp id Eq.symm,fun h=>h.imp id Eq.symm⟩
theorem RSp.stored{b g cap:Nat}{cur':Array Value}(hb:w.heap[b]? =some (.cells #[.int .i64 n,.slice (some ⟨g,0,none⟩) O.length cap] 135 (0,0))){cur:Array Value}(hg0:w.heap[g]? =some (.cells cur 109 (0,0)))(hnc:O.length<=cap)(hcm:cap<=maxLen)(hB:OwB O)(hM:∀ k,M k ↔ k=b\/k=g){w':World}(hw:Wrote w w' g)(hg:w'.heap[g]? =some (.cells cur' 109 (0,0)))(hs:cur'.size=cap*2)
 {k:Nat} {i j:Int} (ht:cur'.toList.take (O.length*2)=ownC (O.set k (i,j))) (hij:(0<=i/\i<=65535)/\(0<=j/\j<=65535)):RSp w' M (.pointer (some ⟨b,0,none⟩)) n (O.set k (i,j))/\Chg M M w w':=by
 have hne:b≠g:=fun e=>by
  rw[e,hg0] at hb
  injection hb with hb
  injection hb with _ hb _
  exact absurd hb (by decide)
 refine⟨⟨b,.slice (some ⟨g,0,none⟩) O.length cap,rfl,(hw.2.2.2.2 b hne).trans hb,⟨?_,?_⟩,?_⟩,⟨hw.1,hw.2.1,hw.2.2.1,by rw[hw.2.2.2.1];exact Nat.le_refl _,fun x hx hn=>⟨hw.2.2.2.2 x fun e=>hn ((hM x).2 (.inr e)),hn⟩⟩⟩
 . intro x
   rw[List.getD_eq_getElem?_getD,List.getElem?_set];by_cases e:k=x
   . rw[if_pos e]
     split
     . exact hij
     . exact⟨by decide,by decide⟩
   . rw[if_neg e,<- List.getD_eq_getElem?_getD]
     exact hB x
 . rw[List.length_set]
   exact⟨by rw[Zbk,List.length_set],.inr ⟨g,cap,cur',rfl,Nat.zero_le _,hg,hnc,hcm,hs,ht⟩⟩
 . intro x
   rw[hM x];simp only[Value.ownBlock,Option.some.injEq];exact⟨fun h=>h.imp id Eq.symm,fun h=>h.imp id Eq.symm⟩
end
end Go.Proofs.YtedabomlfcghoaaGreat
namespace Go.Proofs.YtedabomlfcghoaaGreat
set_option maxRecDepth 100000
open Go.RowKit BM
section
variable {w:World}{P:Nat->Prop}{d p:Value}{X:XSt}{O D:List (Int × Int)}{k:Nat}
theorem OB.far{B:Nat}{v:Value}{l:List Int}(h:OB w B v l)(hP:∀ i,P i->i<B):Apt P v:=fun ad n cap e hn hp=>by
 have:=(World.ownsRow.lt h.2 ad.block (by rw[e];rfl)).1;have:=hP _ hp;omega
def putX(X:XSt)(g:Nat)(D:List (Int × Int)):XSt:={ X with call:=putG X.call g D,put:=addS (addS X.put ((dscN g:Int)+1)) (dscN g:Int) }
theorem addS_le(S:List Int)(n:Int):(addS S n).length<=S.length+1:=by unfold addS;split <;> simp
theorem xPut_ok{X:XSt}{n:Int}{l:List Int}(hw:X.wi=true)(h0:0<=n)(h1:n<X.is.length)(hl:l.length=256)(hp:X.put.length<37):xPut X n l=(0,{ X with call:=X.call.set n.toNat l,put:=addS X.put n }):=by
 unfold xPut;rw[if_neg (by rw[hw];decide),if_neg (by omega),if_neg (by omega)]
theorem spWrite_of{v:Value}(h:SInv w P d p X)(hw:X.wi=true)(hp0:X.put.length<=35)(hlen:X.is.length=64*k)(h12:k<=12){g:Nat}(hg:g<k)(hs:OwSl w v D)(ha:allO D=true):
 Calls Tryz.prog 207 #[p,.int .i64 g,v] w fun e w'=>e=.returned (.int .i64 0)/\∃ P',SInv w' P' d p (putX X g D)/\Chg P P' w w':=by
 have hin:=Zjl hg;have hlt:=h.lt;have KP:=hid (grPage_yes hs ha);have KD:Hid (∀ W:World,Below w.heap.size w W->Calls Tryz.prog 98 #[.int .i64 g,v] W fun e w'=>∃ u,e=.returned (.tuple #[u,.int .i64 0])/\OB w' W.heap.size u (Zhl g (Zbe D 64))/\Below W.heap.size W w'):=hid fun W hb=>spDesc_is (hs.below hb) (g:Int) (by omega) (by omega) ha
 have KGd:=hid (fun(W:World)=>Zkh (g:Int) W);have KGo:=hid (fun(W:World)=>Zjh (g:Int) W);rw[dscN_I (show g<12 by omega)] at KGd;rw[ownN_I (show g<12 by omega)] at KGo;have hD:=Ziq ha;have e1:((dscN g:Int)+1).toNat=dscN g+1:=by omega
 have x1:=xPut_ok (X:=X) (n:=(dscN g:Int)+1) (l:=Zcs D) hw (by omega) (by omega) (Zhy hD) (by omega);rw[e1] at x1;have x2:=xPut_ok (X:={ X with call:=X.call.set (dscN g+1) (Zcs D),put:=addS X.put ((dscN g:Int)+1) }) (n:=(dscN g:Int)) (l:=Zhl g (Zbe D 64)) hw (by omega) (by show _<(X.is.length:Int);omega) (by rw[Zhl];exact Zbb _ (by rw[descC_length _ _ (Zbv _ _)];decide)) (by show(addS X.put ((dscN g:Int)+1)).length<37;have:=addS_le X.put ((dscN g:Int)+1);omega);have KS1:Hid (∀ (W:World) (u:Value),Below w.heap.size w W->BSl W u (Zcs D)->Calls Tryz.prog 67 #[p,.int .i64 ((dscN g:Int)+1),u] W fun e w'=>e=.returned (.int .i64 0)/\∃ P',SInv w' P' d p { X with call:=X.call.set (dscN g+1) (Zcs D),put:=addS X.put ((dscN g:Int)+1) }/\Chg P P' W w'):=hid fun W u hb hu=>by
  have:=sPut_of (h.low hb) hu (n:=(dscN g:Int)+1) (by omega) (by rw[e1];exact hin.2.2);rw[x1] at this;exact this
 have KS2:Hid (∀ (W:World) (u:Value) (P2:Nat->Prop),SInv W P2 d p { X with call:=X.call.set (dscN g+1) (Zcs D),put:=addS X.put ((dscN g:Int)+1) }->BSl W u (Zhl g (Zbe D 64))->Calls Tryz.prog 67 #[p,.int .i64 (dscN g:Nat),u] W fun e w'=>e=.returned (.int .i64 0)/\∃ P',SInv w' P' d p (putX X g D)/\Chg P2 P' W w'):=hid fun W u P2 h2 hu=>by
  have:=sPut_of h2 hu (n:=(dscN g:Int)) (by omega) (by rw[Int.toNat_natCast];exact hin.2.1);rw[x2] at this;exact this
 have HLT:=hid hlt;clear h hw hp0 hlen h12 hg hs ha hin hlt hD e1 x1 x2;go_enter Tryz.func207,Tryz.ntmps207
 go_wp2_with (first
  |(go_at_call 214;refine KP.out.mono ?_;rintro e w1 ⟨vp,rfl,hvp,hb1⟩)
  |(go_at_call 98;refine(KD.out _ hb1).mono ?_;rintro e w2 ⟨vd,rfl,hvd,hb2⟩;have hb02:=hb1.trans (hb2.mono hb1.size);have hvp2:=hvp.below hb2;have hfar:=hvd.far (P:=P) (fun i hi=>Nat.lt_of_lt_of_le (HLT.out i hi) hb1.size))
  |(go_at_call 94;refine(KGd.out _).mono ?_;rintro e w' ⟨rfl,rfl⟩)
  |(go_at_call 95;refine(KGo.out _).mono ?_;rintro e w' ⟨rfl,rfl⟩)
  |(go_at_call 67;(with_reducible refine(KS1.out _ _ hb02 hvp2.bsl).mono ?_);rintro e w3 ⟨rfl,P3,hi3,hc3⟩;have hvd3:=(hvd.bsl.chg hfar hc3).1)
  |(go_at_call 67;(with_reducible refine(KS2.out _ _ _ hi3 hvd3).mono ?_);rintro e w4 ⟨rfl,P4,hi4,hc4⟩))
 go_ret;exact⟨rfl,P4,hi4,((Chg.of_below hb02).trans hc3).trans hc4⟩
end
section
variable {w:World}{P:Nat->Prop}{d p:Value}{X:XSt}{S:List Int}{N:List (List Int)}{bf:Nat}
def putI(X:XSt)(S:List Int)(N:List (List Int))(n:Nat)(x:List Int):XSt:={ X with call:=X.call.set (Zbq S (n / 8)) (encT (inT (N.set n x) (n / 8))),put:=addS X.put (Zbq S (n / 8):Nat) }
set_option maxHeartbeats 1000000 in
theorem fsPut_yes(h:SInv w P d p X)(hw:X.wi=true)(hp:X.put.length<37)(hf:FsAt w bf p)(hT:Tab X.call S N){n:Nat}(h0:1<=n)(h48:n<48){x:List Int}(hx:x.length=14)(hfx:frmI x=true){W:World}(hb:Below w.heap.size w W):
 Calls Tryz.prog 48 #[.pointer (some ⟨bf,0,none⟩),.int .i64 n,.agg (iC x).toArray] W fun e w'=>e=.returned (.int .i64 0)/\∃ P',SInv w' P' d p (putI X S N n x)/\Chg P P' W w':=by
 have ht:n / 8<6:=by omega
 have hj:n%8<8:=by omega
 have hcur:X.cur=X.call:=by unfold XSt.cur;rw[if_pos hw]
 have hT':Tab X.cur S N:=by rw[hcur];exact hT
 have hin:=Zdh hT.sf ht;have hlA:Zbq S (n / 8)<X.is.length:=by have:=hT.at ht;rwa [<- hcur,h.xok.curLen] at this
 have hb1:=Zaa W (iO x 47);have hr1:=heap_alloc_new W (iO x 47);obtain⟨w1,hw1⟩:∃ w1,w1=W.alloc (iO x 47):=⟨_,rfl⟩;rw[<- hw1] at hb1 hr1;have h1:W.alloc (.cells (iC x).toArray 47)=w1:=by rw[hw1];rfl
 have hb01:=hb.trans (hb1.mono hb.size);have H1:=hid h1;have HX:=hid hx;have u1:=Tryz.underlying47;have HR1:Hid (∀ V,Below w1.heap.size w1 V->V.rangeAt W.heap.size 0 (iC x)):=hid fun V hv=>Zel (Zad hr1 hv)
 have KF:=hid (iForm_is hx true hfx);have KN:=hid (fun(V:World) (hv:Below w.heap.size w V)=>fsFind_yes h hf hT' h0 h48 hv);have hok2:=hT.n.set n hx hfx;obtain⟨h14',hal'⟩:=hok2.all ht;have h14:=inT_14 hT.n.l14 (n / 8);have hl8:=Zgi hT.n.len ht;have hl8':=Zgi hok2.len ht;have hset:=inT_set_self N n x;obtain⟨X',hX'⟩:∃ X',X'=putI X S N n x:=⟨_,rfl⟩;have hxp:=xPut_ok (X:=X) (n:=(Zbq S (n / 8):Int)) (l:=encT (inT (N.set n x) (n / 8))) hw (by omega) (by omega) (encT_len _) hp;rw[Int.toNat_natCast,show({ X with call:=X.call.set (Zbq S (n / 8)) (encT (inT (N.set n x) (n / 8))),put:=addS X.put (Zbq S (n / 8):Nat) }:XSt)=X' from hX'.symm] at hxp;rw[<- hX'];have KP:Hid (∀ (V:World) (u:Value),Below w.heap.size w V->BSl V u (encT (inT (N.set n x) (n / 8)))->Calls Tryz.prog 67 #[p,.int .i64 (Zbq S (n / 8):Nat),u] V fun e w'=>e=.returned (.int .i64 0)/\∃ P',SInv w' P' d p X'/\Chg P P' V w'):=hid fun V u hv hu=>by
  have:=sPut_of (h.low hv) hu (n:=(Zbq S (n / 8):Int)) (by omega) (by rw[Int.toNat_natCast];exact hin.2.2.2.2.1);rw[hxp] at this;exact this
 have KB:=hid (fun(V:World) (hv:Below w.heap.size w V)=>Zey (hf.low hv));have HBW:=hid hb01;clear hw hp hf hT hT' hcur hw1 hr1 h1 hb hb01 hok2 hxp hX' h0 h48 h hfx hin hlA hx;obtain⟨A,hA⟩:∃ A,A=Zbq S (n / 8):=⟨_,rfl⟩;obtain⟨T,hTT⟩:∃ T,T=inT N (n / 8):=⟨_,rfl⟩;obtain⟨T2,hT2⟩:∃ T2,T2=inT (N.set n x) (n / 8):=⟨_,rfl⟩;obtain⟨j,hjj⟩:∃ j,j=n%8:=⟨_,rfl⟩;rw[<- hA] at KN KP;rw[<- hTT] at KN h14 hl8 hset;rw[<- hT2] at KP hl8' h14' hal' hset;rw[<- hjj] at KN hj hset;have ej:(j:Int)<8:=by omega
 have HJ:Hid (j<T.length):=hid (by omega);have H14:Hid (∀ y∈T,(iC y).length=14):=hid fun y hy=>by rw[Zao];exact h14 y hy
 have KE:=hid (fun(V:World) (g:Nat) (hr:V.heap[g]? =some (.cells ((T.set j x).flatMap iC).toArray 47 (0,0)))=>iEnc_yes (row8_sl h14' hl8' (by rw[hset];exact hr)) hal');clear hA hTT hT2 hjj ht hj h14 h14' hl8 hl8' hal' hset;go_enter Tryz.func48,Tryz.ntmps48;go_upto_region 1 with(fail)
 rw[H1.out];have hrg:=HR1.out _ (Below.refl _ _)
 go_upto_region 10 with(first
  |(with_reducible refine Zae rfl 47 (.tmp 5) rfl W.heap.size 0 rfl x _ hrg u1 rfl (by rw[Zhi,HX.out]) ?_)
  |(go_at_call 90;refine(KF.out _).mono ?_;rintro e w2 ⟨rfl,hb2⟩)
  |(go_at_call 36;refine(KN.out _ (HBW.out.trans (hb2.mono HBW.out.size))).mono ?_;rintro e w3 ⟨g,rfl,hg3,hr3,hb3⟩
    have hb34:=Zaa w3 (.cells #[.int .i64 A,.slice (some ⟨g,0,none⟩) 8 8,.int .i64 j] 84);have hr4:(w3.alloc (.cells #[.int .i64 A,.slice (some ⟨g,0,none⟩) 8 8,.int .i64 j] 84)).heap[g]? =some (.cells (T.flatMap iC).toArray 47 (0,0)):=Zad hr3 hb34;have hb14:=(hb2.trans (hb3.mono hb2.size)).trans (hb34.mono (Nat.le_trans hb2.size hb3.size));have hrg4:=HR1.out _ hb14;have hn4:=heap_alloc_new w3 (.cells #[.int .i64 A,.slice (some ⟨g,0,none⟩) 8 8,.int .i64 j] 84);have hg1:=Nat.le_trans hb2.size hg3;have hg3l:=(Array.getElem?_eq_some_iff.1 hr3).1)
  |(with_reducible refine Zae rfl 47 (.tmp 5) rfl W.heap.size 0 rfl x _ hrg4 u1 rfl (by rw[Zhi,HX.out]) ?_)
  |(with_reducible refine Zcg (f:=iC) (s:=14) rfl 47 (.tmp 27) (.tmp 26) rfl Zhi g j T x 47 rfl rfl hr4 HJ.out H14.out (by rw[Zao,HX.out]) (iC_one _) ?_;intro w5 hw5 hr5
    have hb15:=hb14.trans (hw5.below hg1);have hn5:=(hw5.2.2.2.2 w3.heap.size (by omega)).trans hn4;have c50:=cell_of_row _ _ 0 _ _ _ hn5;have c51:=cell_of_row _ _ 1 _ _ _ hn5;have c52:=cell_of_row _ _ 2 _ _ _ hn5)
  |(go_at_call 91;refine(KE.out _ _ hr5).mono ?_;rintro e w6 ⟨u,rfl,hu6,hb6⟩
    have hb16:=hb15.trans (hb6.mono hb15.size);have hn6:=Zad hn5 hb6;have c60:w6.drew.cell? ⟨w3.heap.size,0,none⟩=some (.int .i64 A):=by rw[show w6.drew.cell? ⟨w3.heap.size,0,none⟩=w6.cell? ⟨w3.heap.size,0,none⟩ from rfl,cell_of_row _ _ 0 _ _ _ hn6];rfl))
 have hbd:Below w6.heap.size w6 w6.drew:=(Below.refl _ _).drew;have hb17:=hb16.trans (hbd.mono hb16.size);have hu7:=hu6.bsl.below hbd;have KB7:Hid (Calls Tryz.prog 92 #[.pointer (some ⟨bf,0,none⟩)] w6.drew fun e w'=>e=Ending.returned p/\w'=w6.drew):=hid ((KB.out _ (HBW.out.trans (hb17.mono HBW.out.size))).mono fun e w' ⟨h1,h2⟩=>⟨h1,h2.symm⟩);have KP7:=hid (KP.out _ _ (HBW.out.trans (hb17.mono HBW.out.size)) hu7);have HB7:=hid (hb1.trans (hb17.mono hb1.size));clear hrg hrg4 hr3 hr4 hr5 hn4 hn5 hn6 c50 c51 c52;refine wp_region_still_tail 5 (by kernel_rfl) (by kernel_rfl) ?_;simp only[List.take_succ_cons,List.take_zero,List.drop_succ_cons,List.drop_zero]
 repeat still_step
 still_call KB7.out
 repeat still_step
 refine wpStill_nil ?_;change wpList _ _ _ _ _ w6.drew;go_wp2_with (go_at_call 67;refine KP7.out.mono ?_;rintro e w8 ⟨rfl,P8,hi8,hc8⟩)
 go_ret;exact⟨rfl,P8,hi8,(Chg.of_below HB7.out).trans hc8⟩
end
end Go.Proofs.YtedabomlfcghoaaGreat
