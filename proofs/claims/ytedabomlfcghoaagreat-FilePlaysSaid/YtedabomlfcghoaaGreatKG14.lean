/- What the law rests on: part 14. -/
import Derived.Test.YtedabomlfcghoaaGreatKG13
set_option linter.unusedVariables false
namespace Go.Proofs.YtedabomlfcghoaaGreat
set_option maxRecDepth 100000
open Go.RowKit
def Zbp:List Int:=List.replicate 12 0
def DecOut(l:List Int)(w:World)(e:Ending)(w':World):Prop:=
 Below w.heap.size w w'/\((hasS l/\e=.returned (.tuple #[supV (decS l),.int .i64 0]))\/(¬ hasS l/\e=.returned (.tuple #[supV Zbp,.int .i64 18])))
theorem top_rd{c:List Int}(hb:Byt c):Top (rdS c):=fun i=>by
 by_cases hi:i<12
 . rw[num_rdS _ _ hi];have:=getV_fit hb i;omega
 . unfold num;rw[List.getD_eq_getElem?_getD,List.getElem?_eq_none (by rw[Zfy];omega)];decide
theorem sEnc_no{L:List Int}(hL:L.length=12)(hT:Top L)(h:frmS L=false)(w:World):Calls Tryz.prog 152 #[supV L] w fun e w'=>e=.returned (.tuple #[.slice none 0 0,.int .i64 1])/\Below w.heap.size w w':=
 (sEnc_of hL hT w).mono fun e w' ho=>ho.elim (fun h1=>by rw[h] at h1;cases h1.1) fun h1=>h1.2
theorem sEnc_is{L:List Int}(hL:L.length=12)(hT:Top L)(h:frmS L=true)(w:World):Calls Tryz.prog 152 #[supV L] w fun e w'=>∃ v,e=.returned (.tuple #[v,.int .i64 0])/\OB w' w.heap.size v (encS L)/\Below w.heap.size w w':=
 (sEnc_of hL hT w).mono fun e w' ho=>ho.elim (fun h1=>h1.2) fun h1=>by rw[h] at h1;cases h1.1
theorem Zjr{fn:Func}{p u:Tmp}(h:fn.results=#[.cell p 118,.tmp u])(tmps:Array Value)(w:World)(g:Nat)(T:TypeId)(L:List Int)(x:Value)(hL:L.length=12)(hp:tmps.getD p undef=.pointer (some ⟨g,0,none⟩))(hg:w.heap[g]? =some (supO L T))(hx:tmps.getD u undef=x):
 (results fn tmps).run Tryz.prog w=.ok (.tuple #[supV L,x]) w:=by
 rw[results_cell_tmp h,hp,hx];simp only[asAddr,Sem.run_pure,Result.andThen_ok];rw[run_loadVar_row w g T 118 _ (0,0) _ hg Tryz.underlying118 rfl (by rw[infoS];simp[hL])];rfl
theorem sDec_not{w:World}{v:Value}{l:List Int}(hs:BSl w v l)(h:¬ Zei l):Calls Tryz.prog 109 #[v] w fun e w'=>e=.returned (.tuple #[supV Zbp,.int .i64 18])/\Below w.heap.size w w':=by
 have hb1:=Zaa w (supO Zbp 118);have hr1:=heap_alloc_new w (supO Zbp 118);obtain⟨w1,hw1⟩:∃ w1,w1=w.alloc (supO Zbp 118):=⟨_,rfl⟩;rw[<- hw1] at hb1 hr1;have h1:w.alloc (.cells #[.int .i64 0,.int .i64 0,.int .i64 0,.int .i64 0,.int .i64 0,.int .i64 0,.int .i64 0,.int .i64 0,.int .i64 0,.int .i64 0,.int .i64 0,.int .i64 0] 118)=w1:=by rw[hw1];rfl
 have hz1:w.heap.size<w1.heap.size:=by rw[hw1];simp
 have H1:=hid h1;have HR1:=hid hr1;have HO:=hid (pOpen_not (hs.below hb1) h);clear hs h h1 hw1 hr1;go_enter Tryz.func109,Tryz.ntmps109
 go_wp2_with (first
  |(go_at_call 150;rw[H1.out];refine HO.out.mono ?_;rintro e w2 ⟨rfl,hb2⟩
    have hr2:w2.heap[w.heap.size]? =some (supO Zbp 118):=(hb2.block _ hz1).trans HR1.out)
  |(with_reducible refine Zaq rfl (.tmp 2) (.tmp 16) rfl w.heap.size rfl Zbp Zbp rfl rfl rfl _ hr2 ?_;intro w3 hw3 hr3))
 exact bodyPost_ret (Zjr rfl _ _ w.heap.size _ _ _ rfl rfl hr3 rfl) rfl ⟨rfl,(hb1.trans (hb2.mono hb1.size)).trans (hw3.below (Nat.le_refl _))⟩
theorem sDec_bad{w:World}{v:Value}{l:List Int}(hs:BSl w v l)(h:Zei l)(hf:frmS (rdS (l.take 252))=false):Calls Tryz.prog 109 #[v] w fun e w'=>e=.returned (.tuple #[supV Zbp,.int .i64 18])/\Below w.heap.size w w':=by
 have hb1:=Zaa w (supO Zbp 118);have hr1:=heap_alloc_new w (supO Zbp 118);obtain⟨w1,hw1⟩:∃ w1,w1=w.alloc (supO Zbp 118):=⟨_,rfl⟩;rw[<- hw1] at hb1 hr1;have h1:w.alloc (.cells #[.int .i64 0,.int .i64 0,.int .i64 0,.int .i64 0,.int .i64 0,.int .i64 0,.int .i64 0,.int .i64 0,.int .i64 0,.int .i64 0,.int .i64 0,.int .i64 0] 118)=w1:=by rw[hw1];rfl
 have hz1:w.heap.size<w1.heap.size:=by rw[hw1];simp
 have H1:=hid h1;have HR1:=hid hr1;have HO:=hid (Zjv (hs.below hb1) h);have hlt:=take_len h;have htop:=top_rd (Zbs hs.1 252);have hrl:=Zfy (l.take 252);obtain⟨c,hc⟩:∃ c,c=l.take 252:=⟨_,rfl⟩;rw[<- hc] at hlt HO hf htop hrl;obtain⟨L,hL⟩:∃ L,L=rdS c:=⟨_,rfl⟩;rw[<- hL] at hf htop hrl;have HL:=hid hL;have HLT:=hid hlt;have HEN:=hid (sEnc_no hrl htop hf);clear hs h h1 hw1 hr1 hc hf htop hlt hL;go_enter Tryz.func109,Tryz.ntmps109
 go_wp2_with (first
  |(go_at_call 150;rw[H1.out];refine HO.out.mono ?_;rintro e w2 ⟨v2,rfl,hob2,hb2⟩)
  |(go_at_call 151;refine(sRead_of hob2.bsl HLT.out).mono ?_;rw[<- HL.out];rintro e w3 ⟨rfl,hb3⟩)
  |(with_reducible refine Zaq rfl (.tmp 6) (.tmp 18) rfl w3.heap.size rfl L Zbp rfl hrl rfl _ (heap_alloc_new w3 _) ?_
    intro w5 hw5 hr5;have hb5:Below w3.heap.size w3 w5:=(Zaa w3 _).trans (hw5.below (Nat.le_refl _)))
  |(with_reducible refine Zcu rfl (.tmp 6) rfl w3.heap.size rfl L hrl _ hr5 ?_)
  |(go_at_call 152;refine(HEN.out _).mono ?_;rintro e w6 ⟨rfl,hb6⟩
    have hz2:=Nat.lt_of_lt_of_le hz1 hb2.size;have hz3:=Nat.lt_of_lt_of_le hz2 hb3.size;have hz5:=Nat.lt_of_lt_of_le hz3 hb5.size;have hr6:w6.heap[w.heap.size]? =some (supO Zbp 118):=by rw[hb6.block _ hz5,hb5.block _ hz3,hb3.block _ hz2,hb2.block _ hz1];exact HR1.out
    have hb26:Below w2.heap.size w2 w6:=(hb3.trans (hb5.mono hb3.size)).trans (hb6.mono (Nat.le_trans hb3.size hb5.size));have hb06:Below w.heap.size w w6:=(hb1.trans (hb2.mono hb1.size)).trans (hb26.mono (Nat.le_trans hb1.size hb2.size));clear hz2 hz3 hz5 hb26)
  |(with_reducible refine Zaq rfl (.tmp 2) (.tmp 32) rfl w.heap.size rfl Zbp Zbp rfl rfl rfl _ hr6 ?_;intro w7 hw7 hr7))
 exact bodyPost_ret (Zjr rfl _ _ w.heap.size _ _ _ rfl rfl hr7 rfl) rfl ⟨rfl,hb06.trans (hw7.below (Nat.le_refl _))⟩
theorem sDec_good{w:World}{v:Value}{l:List Int}(hs:BSl w v l)(h:Zei l)(hf:frmS (rdS (l.take 252))=true)(heq:encS (rdS (l.take 252))=l):Calls Tryz.prog 109 #[v] w fun e w'=>e=.returned (.tuple #[supV (rdS (l.take 252)),.int .i64 0])/\Below w.heap.size w w':=by
 have hb1:=Zaa w (supO Zbp 118);have hr1:=heap_alloc_new w (supO Zbp 118);obtain⟨w1,hw1⟩:∃ w1,w1=w.alloc (supO Zbp 118):=⟨_,rfl⟩;rw[<- hw1] at hb1 hr1;have h1:w.alloc (.cells #[.int .i64 0,.int .i64 0,.int .i64 0,.int .i64 0,.int .i64 0,.int .i64 0,.int .i64 0,.int .i64 0,.int .i64 0,.int .i64 0,.int .i64 0,.int .i64 0] 118)=w1:=by rw[hw1];rfl
 have hz1:w.heap.size<w1.heap.size:=by rw[hw1];simp
 have H1:=hid h1;have HR1:=hid hr1;have HS:=hid hs;have HO:=hid (Zjv (hs.below hb1) h);have hlt:=take_len h;have htop:=top_rd (Zbs hs.1 252);have hrl:=Zfy (l.take 252);obtain⟨c,hc⟩:∃ c,c=l.take 252:=⟨_,rfl⟩;rw[<- hc] at hlt HO hf htop hrl heq |-
 obtain⟨L,hL⟩:∃ L,L=rdS c:=⟨_,rfl⟩;rw[<- hL] at hf htop hrl heq |-
 have HL:=hid hL;have HLT:=hid hlt;have HEN:=hid (sEnc_is hrl htop hf);have HD:Hid (decide (encS L=l)=true):=hid (decide_eq_true heq);clear hs h h1 hw1 hr1 hc hf htop hlt hL heq;go_enter Tryz.func109,Tryz.ntmps109
 go_wp2_with (first
  |(go_at_call 150;rw[H1.out];refine HO.out.mono ?_;rintro e w2 ⟨v2,rfl,hob2,hb2⟩)
  |(go_at_call 151;refine(sRead_of hob2.bsl HLT.out).mono ?_;rw[<- HL.out];rintro e w3 ⟨rfl,hb3⟩)
  |(with_reducible refine Zaq rfl (.tmp 6) (.tmp 18) rfl w3.heap.size rfl L Zbp rfl hrl rfl _ (heap_alloc_new w3 _) ?_
    intro w5 hw5 hr5;have hb5:Below w3.heap.size w3 w5:=(Zaa w3 _).trans (hw5.below (Nat.le_refl _)))
  |(with_reducible refine Zcu rfl (.tmp 6) rfl w3.heap.size rfl L hrl _ hr5 ?_)
  |(go_at_call 152;refine(HEN.out _).mono ?_;rintro e w6 ⟨v6,rfl,hob6,hb6⟩
    have hz2:=Nat.lt_of_lt_of_le hz1 hb2.size;have hz3:=Nat.lt_of_lt_of_le hz2 hb3.size;have hz5:=Nat.lt_of_lt_of_le hz3 hb5.size;have hr6:w6.heap[w.heap.size]? =some (supO Zbp 118):=by rw[hb6.block _ hz5,hb5.block _ hz3,hb3.block _ hz2,hb2.block _ hz1];exact HR1.out
    have hrs6:w6.heap[w3.heap.size]? =some (supO L 118):=by rw[hb6.block _ (Array.getElem?_eq_some_iff.1 hr5).1];exact hr5
    have hb26:Below w2.heap.size w2 w6:=(hb3.trans (hb5.mono hb3.size)).trans (hb6.mono (Nat.le_trans hb3.size hb5.size));have hb06:Below w.heap.size w w6:=(hb1.trans (hb2.mono hb1.size)).trans (hb26.mono (Nat.le_trans hb1.size hb2.size));clear hz2 hz3 hz5 hb26)
  |(go_at_call 99;refine(Zdm hob6.bsl (HS.out.below hb06)).mono ?_;rw[HD.out];rintro e w' ⟨rfl,rfl⟩)
  |(with_reducible refine Zcu rfl (.tmp 6) rfl w3.heap.size rfl L hrl _ hrs6 ?_)
  |(with_reducible refine Zaq rfl (.tmp 2) (.tmp 33) rfl w.heap.size rfl L Zbp rfl hrl rfl _ hr6 ?_;intro w7 hw7 hr7))
 exact bodyPost_ret (Zjr rfl _ _ w.heap.size _ _ _ hrl rfl hr7 rfl) rfl ⟨rfl,hb06.trans (hw7.below (Nat.le_refl _))⟩
theorem sDec_other{w:World}{v:Value}{l:List Int}(hs:BSl w v l)(h:Zei l)(hf:frmS (rdS (l.take 252))=true)(heq:encS (rdS (l.take 252))≠l):Calls Tryz.prog 109 #[v] w fun e w'=>e=.returned (.tuple #[supV Zbp,.int .i64 18])/\Below w.heap.size w w':=by
 have hb1:=Zaa w (supO Zbp 118);have hr1:=heap_alloc_new w (supO Zbp 118);obtain⟨w1,hw1⟩:∃ w1,w1=w.alloc (supO Zbp 118):=⟨_,rfl⟩;rw[<- hw1] at hb1 hr1;have h1:w.alloc (.cells #[.int .i64 0,.int .i64 0,.int .i64 0,.int .i64 0,.int .i64 0,.int .i64 0,.int .i64 0,.int .i64 0,.int .i64 0,.int .i64 0,.int .i64 0,.int .i64 0] 118)=w1:=by rw[hw1];rfl
 have hz1:w.heap.size<w1.heap.size:=by rw[hw1];simp
 have H1:=hid h1;have HR1:=hid hr1;have HS:=hid hs;have HO:=hid (Zjv (hs.below hb1) h);have hlt:=take_len h;have htop:=top_rd (Zbs hs.1 252);have hrl:=Zfy (l.take 252);obtain⟨c,hc⟩:∃ c,c=l.take 252:=⟨_,rfl⟩;rw[<- hc] at hlt HO hf htop hrl heq;obtain⟨L,hL⟩:∃ L,L=rdS c:=⟨_,rfl⟩;rw[<- hL] at hf htop hrl heq;have HL:=hid hL;have HLT:=hid hlt;have HEN:=hid (sEnc_is hrl htop hf);have HD:Hid (decide (encS L=l)=false):=hid (decide_eq_false heq);clear hs h h1 hw1 hr1 hc hf htop hlt hL heq;go_enter Tryz.func109,Tryz.ntmps109
 go_wp2_with (first
  |(go_at_call 150;rw[H1.out];refine HO.out.mono ?_;rintro e w2 ⟨v2,rfl,hob2,hb2⟩)
  |(go_at_call 151;refine(sRead_of hob2.bsl HLT.out).mono ?_;rw[<- HL.out];rintro e w3 ⟨rfl,hb3⟩)
  |(with_reducible refine Zaq rfl (.tmp 6) (.tmp 18) rfl w3.heap.size rfl L Zbp rfl hrl rfl _ (heap_alloc_new w3 _) ?_
    intro w5 hw5 hr5;have hb5:Below w3.heap.size w3 w5:=(Zaa w3 _).trans (hw5.below (Nat.le_refl _)))
  |(with_reducible refine Zcu rfl (.tmp 6) rfl w3.heap.size rfl L hrl _ hr5 ?_)
  |(go_at_call 152;refine(HEN.out _).mono ?_;rintro e w6 ⟨v6,rfl,hob6,hb6⟩
    have hz2:=Nat.lt_of_lt_of_le hz1 hb2.size;have hz3:=Nat.lt_of_lt_of_le hz2 hb3.size;have hz5:=Nat.lt_of_lt_of_le hz3 hb5.size;have hr6:w6.heap[w.heap.size]? =some (supO Zbp 118):=by rw[hb6.block _ hz5,hb5.block _ hz3,hb3.block _ hz2,hb2.block _ hz1];exact HR1.out
    have hrs6:w6.heap[w3.heap.size]? =some (supO L 118):=by rw[hb6.block _ (Array.getElem?_eq_some_iff.1 hr5).1];exact hr5
    have hb26:Below w2.heap.size w2 w6:=(hb3.trans (hb5.mono hb3.size)).trans (hb6.mono (Nat.le_trans hb3.size hb5.size));have hb06:Below w.heap.size w w6:=(hb1.trans (hb2.mono hb1.size)).trans (hb26.mono (Nat.le_trans hb1.size hb2.size));clear hz2 hz3 hz5 hb26)
  |(go_at_call 99;refine(Zdm hob6.bsl (HS.out.below hb06)).mono ?_;rw[HD.out];rintro e w' ⟨rfl,rfl⟩)
  |(with_reducible refine Zaq rfl (.tmp 2) (.tmp 32) rfl w.heap.size rfl Zbp Zbp rfl rfl rfl _ hr6 ?_;intro w7 hw7 hr7))
 exact bodyPost_ret (Zjr rfl _ _ w.heap.size _ _ _ rfl rfl hr7 rfl) rfl ⟨rfl,hb06.trans (hw7.below (Nat.le_refl _))⟩
theorem sDec_of{w:World}{v:Value}{l:List Int}(hs:BSl w v l):Calls Tryz.prog 109 #[v] w (DecOut l w):=by
 by_cases h:Zei l
 . by_cases hf:frmS (rdS (l.take 252))=true
   . by_cases heq:encS (rdS (l.take 252))=l
     . exact(sDec_good hs h hf heq).mono fun e w' ⟨h1,h2⟩=>⟨h2,.inl ⟨⟨h,hf,heq⟩,h1⟩⟩
     . exact(sDec_other hs h hf heq).mono fun e w' ⟨h1,h2⟩=>⟨h2,.inr ⟨fun hh=>heq hh.2.2,h1⟩⟩
   . exact(sDec_bad hs h (by simpa using hf)).mono fun e w' ⟨h1,h2⟩=>⟨h2,.inr ⟨fun hh=>hf hh.2.1,h1⟩⟩
 . exact(sDec_not hs h).mono fun e w' ⟨h1,h2⟩=>⟨h2,.inr ⟨fun hh=>h hh.1,h1⟩⟩
def cF(x:Value × Int):List Value:=[x.1,.int .i64 x.2]
theorem cF_len(x:Value × Int):(cF x).length=2:=rfl
def fl7(g j:Nat):Value × Int:=(.pointer (some ⟨g,j,none⟩),(w7 j:Int))
def fldK7(g k:Nat):List (Value × Int):=(List.range 14).map fun j=>if j<k then fl7 g j else (.pointer none,0)
theorem Zfi(g k:Nat):(fldK7 g k).length=14:=by simp[fldK7]
theorem fldK7_set(g k:Nat):(fldK7 g k).set k (fl7 g k)=fldK7 g (k+1):=by
 apply List.ext_getElem (by rw[List.length_set,Zfi,Zfi]);intro i h1 h2;simp only[fldK7,List.getElem_set,List.getElem_map,List.getElem_range];by_cases e:k=i
 . subst e;rw[if_pos rfl,if_pos (by omega)]
 . rw[if_neg e]
   by_cases h:i<k
   . rw[if_pos h,if_pos (by omega)]
   . rw[if_neg h,if_neg (by omega)]
def fldC(g k:Nat):List Value:=(fldK7 g k).flatMap cF
theorem Zfa(g k:Nat):(fldC g k).length=28:=by rw[fldC,Zaw (s:=2) (fun x _=>cF_len x),Zfi]
theorem fldC_one(g k:Nat):∀ v∈fldC g k,v.oneCell'=true:=fun v hv=>by
 obtain⟨x,hx,hv⟩:=List.mem_flatMap.1 hv;obtain⟨j,_,rfl⟩:=List.mem_map.1 hx;simp[cF] at hv;rcases hv with rfl|rfl
 . split <;> rfl
 . rfl
theorem infoF7:(Tryz.prog.info? 245).map (·.size)=some 2:=by kernel_rfl
theorem infoFs7:(Tryz.prog.info? 246).map (·.size)=some 28:=by kernel_rfl
theorem ret_fs7{fn:Func}{p:Tmp}(h:fn.results=#[.cell p 246])(tmps:Array Value)(w:World)(g:Nat)(T:TypeId)(C:List Value)(hC:C.length=28)(hp:tmps.getD p undef=.pointer (some ⟨g,0,none⟩))(hg:w.heap[g]? =some (.cells C.toArray T (0,0))):
 (results fn tmps).run Tryz.prog w=.ok (.agg C.toArray) w:=
 results_cell_row h tmps w g T _ (0,0) _ hp hg Tryz.underlying246 rfl (by rw[infoFs7];simp[hC])
theorem wpList_store_fs{ops:Array Oper}{rest:List Oper}{o:Oper}{a:Act}{w:World}{Q:Exit->Act->World->Prop}(hgd:o.guard=none)(x y:Operand)(ho:o.op=.store 246 x y)
 (g:Nat) (hx:a.eval x=.pointer (some ⟨g,0,none⟩)) (C D:List Value) (hy:a.eval y=.agg C.toArray) (hC:C.length=28) (hD:D.length=28) (h1:∀ v∈C,v.oneCell'=true) (T:TypeId) (hg:w.heap[g]? =some (.cells D.toArray T (0,0)))
 (h:∀ w',Wrote w w' g->w'.heap[g]? =some (.cells C.toArray T (0,0))->wpList Tryz.prog ops Q rest (a.put o.dst undef) w'):wpList Tryz.prog ops Q (o :: rest) a w:=
 wpList_store_row hgd 246 x y ho g _ hx hy T _ hg (by rw[infoFs7];simp[hC]) (by simp[hC,hD]) (all_oneCell_toArray h1) (h _ (Wrote.setRow _ _ _) (setRow_heap _ _ _ _ _ _ hg))
theorem Zhm{ops:Array Oper}{rest:List Oper}{op:Oper}{a:Act}{w:World}{Q:Exit->Act->World->Prop}(hgd:op.guard=none)(x y:Operand)(ho:op.op=.store 245 x y)
 (b g k:Nat) (hk:k<14) (m:Int) (hm:m=(w7 k:Int)) (hx:a.eval x=.pointer (some ⟨b,k*2,none⟩)) (hy:a.eval y=.agg #[.pointer (some ⟨g,k,none⟩),.int .i64 m])
 (hg:w.heap[b]? =some (.cells (fldC g k).toArray 246 (0,0)))
 (h:∀ w',Wrote w w' b->w'.heap[b]? =some (.cells (fldC g (k+1)).toArray 246 (0,0))->wpList Tryz.prog ops Q rest (a.put op.dst undef) w'):wpList Tryz.prog ops Q (op :: rest) a w:=by
 subst hm;refine Zcg (f:=cF) (s:=2) hgd 245 x y ho infoF7 b k (fldK7 g k) (fl7 g k) 246 hx hy hg (by rw[Zfi];exact hk) (fun x _=>cF_len x) (cF_len _) ?_ fun w' h1 h2=>h w' h1 ?_
 . intro v hv
   simp[cF,fl7] at hv;rcases hv with rfl|rfl <;> rfl
 . rw[fldK7_set] at h2;exact h2
theorem fldC_zero(g:Nat):fldC g 0=[.pointer none,.int .i64 0,.pointer none,.int .i64 0,.pointer none,.int .i64 0,.pointer none,.int .i64 0,.pointer none,.int .i64 0,.pointer none,.int .i64 0,.pointer none,.int .i64 0,.pointer none,.int .i64 0,.pointer none,.int .i64 0,.pointer none,.int .i64 0,.pointer none,.int .i64 0,.pointer none,.int .i64 0,.pointer none,.int .i64 0,.pointer none,.int .i64 0]:=rfl
theorem fldC_three(g:Nat):fldC g 3=[.pointer (some ⟨g,0,none⟩),.int .i64 1,.pointer (some ⟨g,1,none⟩),.int .i64 1,.pointer (some ⟨g,2,none⟩),.int .i64 4,.pointer none,.int .i64 0,.pointer none,.int .i64 0,.pointer none,.int .i64 0,.pointer none,.int .i64 0,.pointer none,.int .i64 0,.pointer none,.int .i64 0,.pointer none,.int .i64 0,.pointer none,.int .i64 0,.pointer none,.int .i64 0,.pointer none,.int .i64 0,.pointer none,.int .i64 0]:=rfl
theorem setCells_whole{W:World}{g:Nat}{T:TypeId}{D C:List Value}(hg:W.heap[g]? =some (.cells D.toArray T (0,0)))(hl:C.length=D.length)(h1:∀ v∈C,v.oneCell'=true):
 (W.setCells g 0 C).heap[g]? =some (.cells C.toArray T (0,0))/\Wrote W (W.setCells g 0 C) g:=by
 have e:=Zbx hg (o:=0) (vs:=C) (by omega) h1;rw[e,Zbw D C hl];exact⟨setRow_heap _ _ _ _ _ _ hg,Wrote.setRow _ _ _⟩
set_option maxHeartbeats 2000000 in
theorem iFields_of(w:World)(g:Nat):Calls Tryz.prog 176 #[.pointer (some ⟨g,0,none⟩)] w fun e w'=>e=.returned (.agg (fldC g 14).toArray)/\Below w.heap.size w w':=by
 have hr0:=heap_alloc_new w (.cells (fldC g 0).toArray 246);have hb0:=Zaa w (.cells (fldC g 0).toArray 246);obtain⟨w1,hw1⟩:∃ w1,w1=w.alloc (.cells (fldC g 0).toArray 246):=⟨_,rfl⟩;rw[<- hw1] at hr0 hb0;have hsz:w1.heap.size=w.heap.size+1:=by rw[hw1];simp
 rw[fldC_zero] at hw1;have HW1:=hid hw1;have HR0:=hid hr0;have hr1:=heap_alloc_new w1 (.cells (fldC g 0).toArray 246);have hb1:=Zaa w1 (.cells (fldC g 0).toArray 246);have hth:(w1.alloc (.cells #[.pointer none,.int .i64 0,.pointer none,.int .i64 0,.pointer none,.int .i64 0,.pointer none,.int .i64 0,.pointer none,.int .i64 0,.pointer none,.int .i64 0,.pointer none,.int .i64 0,.pointer none,.int .i64 0,.pointer none,.int .i64 0,.pointer none,.int .i64 0,.pointer none,.int .i64 0,.pointer none,.int .i64 0,.pointer none,.int .i64 0,.pointer none,.int .i64 0] 246)).drew.there w1.heap.size 0 ([.pointer (some ⟨g,0,none⟩),.int .i64 1,.pointer (some ⟨g,1,none⟩),.int .i64 1,.pointer (some ⟨g,2,none⟩),.int .i64 4,.pointer none,.int .i64 0,.pointer none,.int .i64 0,.pointer none,.int .i64 0,.pointer none,.int .i64 0,.pointer none,.int .i64 0,.pointer none,.int .i64 0,.pointer none,.int .i64 0,.pointer none,.int .i64 0,.pointer none,.int .i64 0,.pointer none,.int .i64 0,.pointer none,.int .i64 0]:List Value).toArray.size:=Zcp (w:=(w1.alloc (.cells #[.pointer none,.int .i64 0,.pointer none,.int .i64 0,.pointer none,.int .i64 0,.pointer none,.int .i64 0,.pointer none,.int .i64 0,.pointer none,.int .i64 0,.pointer none,.int .i64 0,.pointer none,.int .i64 0,.pointer none,.int .i64 0,.pointer none,.int .i64 0,.pointer none,.int .i64 0,.pointer none,.int .i64 0,.pointer none,.int .i64 0,.pointer none,.int .i64 0] 246)).drew) (t:=246) (cur:=fldC g 0) hr1 (by rw[Zfa];exact Nat.le_refl _);have hone:∀ v∈([.pointer (some ⟨g,0,none⟩),.int .i64 1,.pointer (some ⟨g,1,none⟩),.int .i64 1,.pointer (some ⟨g,2,none⟩),.int .i64 4,.pointer none,.int .i64 0,.pointer none,.int .i64 0,.pointer none,.int .i64 0,.pointer none,.int .i64 0,.pointer none,.int .i64 0,.pointer none,.int .i64 0,.pointer none,.int .i64 0,.pointer none,.int .i64 0,.pointer none,.int .i64 0,.pointer none,.int .i64 0,.pointer none,.int .i64 0]:List Value),v.oneCell'=true:=by have:=fldC_one g 3;rw[fldC_three] at this;exact this
 have hset:=setCells_whole (W:=(w1.alloc (.cells #[.pointer none,.int .i64 0,.pointer none,.int .i64 0,.pointer none,.int .i64 0,.pointer none,.int .i64 0,.pointer none,.int .i64 0,.pointer none,.int .i64 0,.pointer none,.int .i64 0,.pointer none,.int .i64 0,.pointer none,.int .i64 0,.pointer none,.int .i64 0,.pointer none,.int .i64 0,.pointer none,.int .i64 0,.pointer none,.int .i64 0,.pointer none,.int .i64 0] 246)).drew) (g:=w1.heap.size) (T:=246) (D:=fldC g 0) (C:=[.pointer (some ⟨g,0,none⟩),.int .i64 1,.pointer (some ⟨g,1,none⟩),.int .i64 1,.pointer (some ⟨g,2,none⟩),.int .i64 4,.pointer none,.int .i64 0,.pointer none,.int .i64 0,.pointer none,.int .i64 0,.pointer none,.int .i64 0,.pointer none,.int .i64 0,.pointer none,.int .i64 0,.pointer none,.int .i64 0,.pointer none,.int .i64 0,.pointer none,.int .i64 0,.pointer none,.int .i64 0,.pointer none,.int .i64 0]) hr1 rfl hone;have hb12:=hb1.drew.trans (hset.2.below (Nat.le_refl _));have HB12:=hid (hb0.trans (hb12.mono hb0.size));have HBX:=hid hb12;have HR3:=hid hset.1;have HSZ:=hid hsz;clear hw1 hr0 hset hr1 hb1 hb12 hsz;have hinf:(Tryz.prog.info? 246).map (·.size)=some ([.pointer (some ⟨g,0,none⟩),.int .i64 1,.pointer (some ⟨g,1,none⟩),.int .i64 1,.pointer (some ⟨g,2,none⟩),.int .i64 4,.pointer none,.int .i64 0,.pointer none,.int .i64 0,.pointer none,.int .i64 0,.pointer none,.int .i64 0,.pointer none,.int .i64 0,.pointer none,.int .i64 0,.pointer none,.int .i64 0,.pointer none,.int .i64 0,.pointer none,.int .i64 0,.pointer none,.int .i64 0,.pointer none,.int .i64 0]:List Value).toArray.size:=infoFs7;go_enter Tryz.func176,Tryz.ntmps176;go_wp2;rw[<- HW1.out];go_region_held3 (fun W=>True) (trivial) (fail)
 generalize (w1.alloc (.cells #[.pointer none,.int .i64 0,.pointer none,.int .i64 0,.pointer none,.int .i64 0,.pointer none,.int .i64 0,.pointer none,.int .i64 0,.pointer none,.int .i64 0,.pointer none,.int .i64 0,.pointer none,.int .i64 0,.pointer none,.int .i64 0,.pointer none,.int .i64 0,.pointer none,.int .i64 0,.pointer none,.int .i64 0,.pointer none,.int .i64 0,.pointer none,.int .i64 0] 246)).drew.setCells w1.heap.size 0 [.pointer (some ⟨g,0,none⟩),.int .i64 1,.pointer (some ⟨g,1,none⟩),.int .i64 1,.pointer (some ⟨g,2,none⟩),.int .i64 4,.pointer none,.int .i64 0,.pointer none,.int .i64 0,.pointer none,.int .i64 0,.pointer none,.int .i64 0,.pointer none,.int .i64 0,.pointer none,.int .i64 0,.pointer none,.int .i64 0,.pointer none,.int .i64 0,.pointer none,.int .i64 0,.pointer none,.int .i64 0,.pointer none,.int .i64 0]=w2 at HB12 HBX HR3 |-
 rw[<- fldC_three] at HR3;have hr02:w2.heap[w.heap.size]? =some (.cells (fldC g 0).toArray 246 (0,0)):=(HBX.out.block _ (by have:=HSZ.out;omega)).trans HR0.out;have HR02:=hid hr02;have hb2:=HB12.out;obtain⟨b,hb⟩:∃ b,b=w1.heap.size:=⟨_,rfl⟩;have hne:w.heap.size≠b:=by have:=HSZ.out;omega
 have hle:w.heap.size<=b:=by have:=HSZ.out;omega
 rw[<- hb] at HR3 |-
 clear hinf hth hone hr02 hb HBX HB12 HR0 HW1 HSZ hb0;go_wp2;go_loopw [18] (fun i wr=>∃ j:Nat,j<=10/\i=.int .i64 j/\Hid (wr.heap[b]? =some (.cells (fldC g (3+j)).toArray 246 (0,0)))/\Hid (wr.heap[w.heap.size]? =some (.cells (fldC g 0).toArray 246 (0,0)))/\Below w.heap.size w wr) (fun i _=>10-(intOf i).toNat)
 case atStart=>exact⟨0,by omega,rfl,HR3,HR02,hb2⟩
 case round=>
  obtain⟨j,hj,rfl,HR,HRZ,hbr⟩:=hrel;clear HR3 HR02 hb2;by_cases hlt:j<10
  . have ej:(j:Int)<10:=by omega
    have hw2:(2:Int)=(w7 (3+j):Int):=by simp[w7_two]
    have HW2:=hid hw2;clear hw2;go_wp2_with (with_reducible refine Zhm rfl (.tmp 29) (.tmp 28) rfl b g (3+j) (by omega) 2 HW2.out rfl rfl HR.out ?_;intro w4 hw4 hr4)
    go_roundw
    case rel=>exact⟨j+1,by omega,by go_num,hr4,(hw4.2.2.2.2 _ hne).trans HRZ.out,hbr.trans (hw4.below hle)⟩
    case measure=>simp[intOf];omega
  . obtain rfl:j=10:=by omega
    go_wp2_with (first
     |(with_reducible refine Zhm rfl (.tmp 35) (.tmp 34) rfl b g 13 (by omega) 2 rfl rfl rfl HR.out ?_;intro w4 hw4 hr4
       have hz4:=(hw4.2.2.2.2 _ hne).trans HRZ.out)
     |(with_reducible refine wpList_load_row rfl 246 (.tmp 3) rfl b rfl 246 _ (0,0) _ hr4 Tryz.underlying246 rfl (by rw[infoFs7];simp[Zfa]) ?_)
     |(with_reducible refine wpList_store_fs rfl (.tmp 2) (.tmp 36) rfl w.heap.size rfl (fldC g 14) (fldC g 0) rfl (Zfa g 14) (Zfa g 0) (fldC_one g 14) _ hz4 ?_;intro w5 hw5 hr5))
    exact bodyPost_ret (ret_fs7 rfl _ _ w.heap.size _ _ (Zfa g 14) rfl hr5) rfl ⟨rfl,(hbr.trans (hw4.below hle)).trans (hw5.below (Nat.le_refl _))⟩
theorem idx_fs7(W:World)(g j:Nat)(hj:j<14):(Instr.index 246 (.agg (fldC g 14).toArray) (.int .i64 (j:Int))).run Tryz.prog W=.ok (.agg #[.pointer (some ⟨g,j,none⟩),.int .i64 (w7 j:Int)]) W:=by
 have e:fldC g 14=[.pointer (some ⟨g,0,none⟩),.int .i64 1,.pointer (some ⟨g,1,none⟩),.int .i64 1,.pointer (some ⟨g,2,none⟩),.int .i64 4,.pointer (some ⟨g,3,none⟩),.int .i64 2,.pointer (some ⟨g,4,none⟩),.int .i64 2,.pointer (some ⟨g,5,none⟩),.int .i64 2,.pointer (some ⟨g,6,none⟩),.int .i64 2,.pointer (some ⟨g,7,none⟩),.int .i64 2,.pointer (some ⟨g,8,none⟩),.int .i64 2,.pointer (some ⟨g,9,none⟩),.int .i64 2,.pointer (some ⟨g,10,none⟩),.int .i64 2,.pointer (some ⟨g,11,none⟩),.int .i64 2,.pointer (some ⟨g,12,none⟩),.int .i64 2,.pointer (some ⟨g,13,none⟩),.int .i64 2]:=rfl;rw[e];have a1:=Tryz.isAgg245;have z1:=Tryz.sizeOf245;have:j=0\/j=1\/j=2\/j=3\/j=4\/j=5\/j=6\/j=7\/j=8\/j=9\/j=10\/j=11\/j=12\/j=13:=by omega
 rcases this with rfl|rfl|rfl|rfl|rfl|rfl|rfl|rfl|rfl|rfl|rfl|rfl|rfl|rfl <;> simp[Instr.index,run_underlying Tryz.underlying246,asIntOf,go_sem,a1,z1] <;> rfl
theorem Zlm{w w':World}{row:Option Nat}(h:w.grownBy w' row)(b o:Nat)(hb:b<w.heap.size)(hne:∀ k,row=some k->k≠b):w'.cell? ⟨b,o,none⟩=w.cell? ⟨b,o,none⟩:=by
 apply World.cell?_of_block;exact h.block b hb (fun e=>hne b e.symm rfl)
theorem Zla{ops:Array Oper}{o:Oper}{a:Act}{w:World}{K:Act->World->Prop}{Q:Exit->Act->World->Prop}{E:Prop}(hgd:o.guard=none)(s x:Operand)
 (ho:o.op=.call { callee:=.builtin .append,args:=#[s,x],argTypes:=#[30,30] })
 (B:Nat) (v:Value) (l:List Int) (hs:a.eval s=v) (hown:OB w B v l) (u:Value) (m:List Int) (hx:a.eval x=u) (hr:BSl w u m) (hm:0<m.length)
 (hlen:l.length+m.length<=140737488355328) (hB:B<=w.heap.size)
 (h:∀ v' w',OB w' B v' (l ++ m)->Below B w w'->w.grownBy w' v.ownBlock->K (a.put o.dst v') w'):
 if Region.wanted o (yielded ops a.tmps)=true then Oper.wp Tryz.prog o a w K Q else E:=by
 have hw:Region.wanted o (yielded ops a.tmps)=true:=by simp[Region.wanted,hgd]
 rw[if_pos hw];obtain⟨i,h2,h3,h4,h5⟩:=info_parts Zke;obtain⟨ao,cap,rfl,hcap⟩:=hr.shape;have hby:=Zdc hown.1 hr.1;have e1:(l ++ m).length=l.length+m.length:=List.length_append;have e2:(l ++ m).map (Value.int .u8)=l.map (Value.int .u8) ++ m.map (Value.int .u8):=List.map_append;cases ao with
 |none=>
  rcases hr.2 with⟨_,hl⟩| ⟨_,_,hv,_⟩
  . rw[hl] at hm;simp at hm
  . simp at hv
 |some ad=>
  have hcells:∀ j v,(m.map (Value.int .u8))[j]? =some v->w.cell? (ad.add j)=some v:=by
   intro j v hj;have hjl:j<m.length:=by simpa using (List.getElem?_eq_some_iff.1 hj).1
   obtain⟨ad',he,hc⟩:=Zeq hr (fun _ _=>rfl) m.length (by simp;omega);obtain rfl:ad=ad':=by simpa using he
   exact hc j v (by simpa using hj)
  refine wp_append_own w s x 30 ho B 5 i (.int .u8 0) 1 1 Tryz.underlying30 h2 h3 h4 h5 rfl (by decide) v l.length _ hs hown.2 ad m.length cap _ hx (by simp) hcells (ints_oneCell _ _) (by simp only[maxLen];omega) (by omega) hB fun v' w' h6 h7 _=>?_
  exact h v' w' ⟨hby,by rw[e1,e2];exact h6⟩ ((Below.refl _ _).grown h7 hB fun k hk=>(hown.2.lt k hk).1) h7
theorem ob_len7{w:World}{B:Nat}{v:Value}{l:List Int}(h:OB w B v l)(n:Nat)(hn:l.length=n)(h0:0<n):∃ g cap,v=.slice (some ⟨g,0,none⟩) n cap:=by
 rcases h.2.2 with⟨_,h1⟩| ⟨g,cap,cur,hv,_⟩
 . omega
 . exact⟨g,cap,by rw[hv,hn]⟩
set_option maxHeartbeats 2000000 in
theorem iWrite_at(kd ln sz d0 d1 d2 d3 d4 d5 d6 d7 d8 d9 mp:Int)(L:List Int)(hLL:L=[kd,ln,sz,d0,d1,d2,d3,d4,d5,d6,d7,d8,d9,mp])(hf:frmI L=true)(w:World):Calls Tryz.prog 142 #[.agg #[.int .i64 kd,.int .i64 ln,.int .i64 sz,.int .i64 d0,.int .i64 d1,.int .i64 d2,.int .i64 d3,.int .i64 d4,.int .i64 d5,.int .i64 d6,.int .i64 d7,.int .i64 d8,.int .i64 d9,.int .i64 mp]] w (NewB w (enc7 L)):=by
 have hL:L.length=14:=by rw[hLL];rfl
 have hb1:=Zaa w (iO L 47);have hr1:=heap_alloc_new w (iO L 47);obtain⟨W1,hW1⟩:∃ W1,W1=w.alloc (iO L 47):=⟨_,rfl⟩;rw[<- hW1] at hb1 hr1;have hsz:w.heap.size<W1.heap.size:=by rw[hW1];simp
 have HZ1:Hid (W1.heap.size=w.heap.size+1):=hid (by rw[hW1];simp);have H2:Hid (w.alloc (.cells #[.int .i64 kd,.int .i64 ln,.int .i64 sz,.int .i64 d0,.int .i64 d1,.int .i64 d2,.int .i64 d3,.int .i64 d4,.int .i64 d5,.int .i64 d6,.int .i64 d7,.int .i64 d8,.int .i64 d9,.int .i64 mp] 47)=W1):=hid (by rw[hW1,hLL];rfl);have HR1:=hid hr1;have HF:=hid (Zha hL hf);have HL:=hid hL;obtain⟨M,hMM⟩:∃ M:Nat,M=32:=⟨_,rfl⟩;have HMI:Hid ((32:Int)=(M:Int)):=hid (by omega);have hM1:M<=1000:=by omega
 clear hW1 hr1 hLL hf hL hMM;go_enter Tryz.func142,Tryz.ntmps142
 go_wp2_with (first
  |(at_make;refine Zbn _ rfl _ _ rfl 0 32 0 M rfl rfl rfl HMI.out (Nat.zero_le _) (by omega) ?_)
  |(go_at_call 176
    rw[H2.out];have hob2:=ob_made W1 M hM1;have hb2:Below W1.heap.size W1 (W1.alloc (.cells (Array.replicate M (.int .u8 0)) 5)):=Zaa _ _;generalize W1.alloc (.cells (Array.replicate M (.int .u8 0)) 5)=w2 at hob2 hb2 |-
    refine(iFields_of _ _).mono ?_;rintro e w3 ⟨rfl,hb3⟩))
 rw[HZ1.out] at hob2;have hb23:Below W1.heap.size W1 w3:=hb2.trans (hb3.mono hb2.size);have hb03:Below w.heap.size w w3:=hb1.trans (hb23.mono (Nat.le_of_lt hsz));have hr3:w3.heap[w.heap.size]? =some (iO L 47):=(hb23.block _ hsz).trans HR1.out;have hz3:w.heap.size<w3.heap.size:=Nat.lt_of_lt_of_le hsz hb23.size;obtain⟨g,hg⟩:∃ g,g=w.heap.size:=⟨_,rfl⟩;rw[<- hg] at hr3 hz3 |-
 have hc3:∀ j,j<14->w3.cell? ⟨g,j,none⟩=some (.int .i64 (L.getD j 0)):=fun j hj=>Zev hr3 j (by rw[HL.out];exact hj)
 have HIX:=hid (fun W j hj=>idx_fs7 W g j hj);obtain⟨F,hF⟩:∃ F,F=(fldC g 14).toArray:=⟨_,rfl⟩;rw[<- hF] at HIX |-
 have HOB3:=hid ((hob2.below hb3).more (B':=g+1) (by have:=HZ1.out;omega));rw[<- hg] at HOB3;have HC:=hid hc3;have hbg3:Below g w w3:=by rw[hg];exact hb03
 have HG:=hid hg;clear hb03 hg hr3 hc3 hF hb23 hb3 hb2 hob2 hb1 hsz;go_loopw [3,8] (fun u i wr=>∃ j:Nat,j<=14/\i=.int .i64 j/\Hid (OB wr (g+1) u (con7 L j))/\Hid (Below g w wr)/\w3.heap.size<=wr.heap.size/\Hid (∀ j,j<14->wr.cell? ⟨g,j,none⟩=some (.int .i64 (L.getD j 0)))) (fun _ i _=>14-(intOf i).toNat)
 case atStart=>exact⟨0,by omega,rfl,HOB3,hbg3,Nat.le_refl _,HC⟩
 case round=>
  clear HOB3 hbg3 HC;obtain⟨j,hj,rfl,HOB,HBR,hsz,HC⟩:=hrel;by_cases hlt:j<14
  . have hix:=HIX.out wr j hlt
    have hx0:=HF.out j hlt;have hcx:=HC.out j hlt;have hcs:con7 L (j+1)=con7 L j ++ lowB (L.getD j 0) (w7 j):=rfl;have hwd:=w7_le j;have hlen:=Zcf L j;have hpin:=p7_in j hlt;have hpw:=Zgb hwd.2;have e4:(256:Int) ^ 4=4294967296:=rfl;obtain⟨x,hx⟩:∃ x,x=L.getD j 0:=⟨_,rfl⟩;obtain⟨k,hk⟩:∃ k,k=w7 j:=⟨_,rfl⟩;rw[<- hx] at hx0 hcx hcs;rw[<- hk] at hwd hix hcs hx0 hpin hpw;have hx1:x<4294967296:=by omega
    have hx2:=hx0.1;have HCS:=hid hcs;have HPU:=hid (fun W=>Zfq (Zhd W) (by simp) x (k:Int) k (by omega) (by omega) rfl hx2 (by omega));have HLE:Hid ((con7 L j).length+(lowB x k).length<=140737488355328):=hid (by rw[hlen,Zac];omega);have HKL:Hid (0<(lowB x k).length):=hid (by rw[Zac];omega);have ej:(j:Int)<14:=by omega
    have hgw:g<wr.heap.size:=Nat.lt_of_lt_of_le hz3 hsz;clear hx hk hcs hx0 hlen hpin hpw e4;go_wp2;have hbx:=Zaa wr (.cells #[.pointer (some ⟨g,j,none⟩),.int .i64 (k:Int)] 245);have hhx:=heap_alloc_new wr (.cells #[.pointer (some ⟨g,j,none⟩),.int .i64 (k:Int)] 245);generalize wr.alloc (.cells #[.pointer (some ⟨g,j,none⟩),.int .i64 (k:Int)] 245)=W5 at hbx hhx |-
    have c0:W5.cell? ⟨wr.heap.size,0,none⟩=some (.pointer (some ⟨g,j,none⟩)):=by rw[cell_of_row _ _ _ _ _ _ hhx];rfl
    have c1:W5.cell? ⟨wr.heap.size,1,none⟩=some (.int .i64 (k:Int)):=by rw[cell_of_row _ _ _ _ _ _ hhx];rfl
    have c2:W5.cell? ⟨g,j,none⟩=some (.int .i64 x):=by rw[hbx.cell hgw];exact hcx
    obtain⟨q,hq⟩:∃ q,q=wr.heap.size:=⟨_,rfl⟩;have hq5:q<W5.heap.size:=by rw[hq];exact(Array.getElem?_eq_some_iff.1 hhx).1
    have hg5:g<W5.heap.size:=by omega
    have hown:=HOB.out.2.lt;have HNE:=hid (fun k hk=>(show k≠q/\k≠g by have h1:=hown k hk;omega));have hwx:IntKind.u64.wrap x=x:=IntWalk.u64_in _ (by omega);have HBX:=hid (Zab hbx 1);have HU:=hid (HOB.out.below HBX.out);rw[<- hq] at c0 c1 |-
    have d0:W5.drew.cell? ⟨q,0,none⟩=some (.pointer (some ⟨g,j,none⟩)):=c0;have d1:W5.drew.cell? ⟨q,1,none⟩=some (.int .i64 (k:Int)):=c1;have d2:W5.drew.cell? ⟨g,j,none⟩=some (.int .i64 x):=c2;change Hid (OB W5.drew _ _ _) at HU;change Hid (Below wr.heap.size wr W5.drew) at HBX;clear hbx hhx hcx hix hq c0 c1 c2 hown
    go_region_held3 (fun W=>W.cell? ⟨q,0,none⟩=some (.pointer (some ⟨g,j,none⟩))/\W.cell? ⟨q,1,none⟩=some (.int .i64 (k:Int))/\W.cell? ⟨g,j,none⟩=some (.int .i64 x)) (first|exact⟨f0,f1,f2⟩|exact⟨e0,e1,e2⟩|exact⟨d0,d1,d2⟩) (first
     |(go_at_call 177;(with_reducible refine(HPU.out _).mono ?_);rintro e w6 ⟨v6,rfl,hob6,hb6⟩
       have HB6:=hid (HBX.out.trans (hb6.mono HBX.out.size));have e0:=(hb6.cell (p:=⟨q,0,none⟩) hq5).trans d0;have e1:=(hb6.cell (p:=⟨q,1,none⟩) hq5).trans d1;have e2:=(hb6.cell (p:=⟨g,j,none⟩) hg5).trans d2;have hq6:q<w6.heap.size:=Nat.lt_of_lt_of_le hq5 hb6.size;have hg6:g<w6.heap.size:=Nat.lt_of_lt_of_le hg5 hb6.size)
     |(refine Zla rfl (.tmp 11) (.tmp 19) rfl (g+1) _ (con7 L j) rfl (HU.out.below hb6) v6 (lowB x k) rfl hob6.bsl HKL.out HLE.out hg6 ?_
       intro v7 w7 hob7 hb7 hg7;have f0:=(Zlm hg7 q 0 hq6 (fun k hk=>(HNE.out k hk).1)).trans e0;have f1:=(Zlm hg7 q 1 hq6 (fun k hk=>(HNE.out k hk).1)).trans e1;have f2:=(Zlm hg7 g j hg6 (fun k hk=>(HNE.out k hk).2)).trans e2))
    go_wp2;go_roundw
    case rel=>
     have h67:Below g wr w7:=(HB6.out.mono (Nat.le_of_lt hgw)).trans (hb7.mono (Nat.le_succ g));refine⟨j+1,by omega,by go_num,?_,HBR.out.trans h67,Nat.le_trans hsz h67.size,fun i hi=>?_⟩
     . show OB _ _ _ (con7 L (j+1))
       rw[HCS.out];exact hob7
     . rw[hb7.cell (p:=⟨g,i,none⟩) (Nat.lt_succ_self g),HB6.out.cell (p:=⟨g,i,none⟩) hgw];exact HC.out i hi
    case measure=>simp[intOf];omega
  . obtain rfl:j=14:=by omega
    obtain⟨gq,cq,rfl⟩:=ob_len7 HOB.out 28 (Zcf L 14) (by decide);have hle:g+1<=wr.heap.size:=by omega
    have hl28:=Zcf L 14;rw[p7_end] at hl28;have HL28:Hid ((con7 L 14).length+4<=140737488355328):=hid (by omega);clear hl28;go_wp2_with (at_builtin;refine Zeo wr rfl (.tmp 22) (.tmp 25) rfl (g+1) _ (con7 L 14) rfl HOB.out 4 4 rfl rfl HL28.out hle ?_;intro v8 w8 hob8 hb8)
    go_ret;have hbf:=HBR.out.trans (hb8.mono (Nat.le_succ g));have eg:=HG.out;exact⟨_,rfl,hob8.more (by omega),by rw[<- eg];exact hbf⟩
theorem iWrite_of{L:List Int}(hL:L.length=14)(hf:frmI L=true)(w:World):Calls Tryz.prog 142 #[.agg (iC L).toArray] w (NewB w (enc7 L)):=by
 match L,hL with
 |[kd,ln,sz,d0,d1,d2,d3,d4,d5,d6,d7,d8,d9,mp],_=>exact iWrite_at kd ln sz d0 d1 d2 d3 d4 d5 d6 d7 d8 d9 mp _ rfl hf w
theorem infoN7:(Tryz.prog.info? 47).map (·.size)=some 14:=by kernel_rfl
theorem Zbl{ops:Array Oper}{rest:List Oper}{o:Oper}{a:Act}{w:World}{Q:Exit->Act->World->Prop}(hgd:o.guard=none)(T:TypeId)(x y:Operand)(ho:o.op=.store T x y)
 (g:Nat) (hx:a.eval x=.pointer (some ⟨g,0,none⟩)) (L D:List Int) (hy:a.eval y=.agg (iC L).toArray) (hLD:D.length=L.length) (hi:(Tryz.prog.info? T).map (·.size)=some L.length) (T':TypeId) (hg:w.heap[g]? =some (iO D T'))
 (h:∀ w',Wrote w w' g->w'.heap[g]? =some (iO L T')->wpList Tryz.prog ops Q rest (a.put o.dst undef) w'):wpList Tryz.prog ops Q (o :: rest) a w:=
 wpList_store_row hgd T x y ho g _ hx hy T' _ hg (by rw[hi];simp[iC]) (by simp[iC,hLD]) (all_oneCell_toArray (iC_one L)) (h _ (Wrote.setRow _ _ _) (setRow_heap _ _ _ _ _ _ hg))
def NSl(w:World)(v:Value)(O:List (List Int)):Prop:=
 Zgq O/\((v=.slice none 0 0/\O=[])\/∃ a cap,v=.slice (some a) O.length cap/\∀ j,j<O.length->a.block<w.heap.size/\a.spot=none/\w.rangeAt a.block (a.off+j*14) (iC (O.getD j [])))
theorem NSl.open'{w:World}{v:Value}{O:List (List Int)}(h:NSl w v O):∃ ao cap,v=.slice ao O.length cap/\(0<O.length->∃ b off,ao=some ⟨b,off,none⟩/\b<w.heap.size/\
 ∀ j,j<O.length->w.rangeAt b (off+j*14) (iC (O.getD j []))):=by
 rcases h.2 with⟨hv,hk⟩| ⟨⟨b,off,spot⟩,cap,hv,hc⟩
 . exact⟨none,0,by rw[hv,hk];rfl,fun h=>by rw[hk] at h;simp at h⟩
 . refine⟨_,cap,hv,fun h0=>?_⟩
   obtain⟨h1,h2,_⟩:=hc 0 h0;obtain rfl:spot=none:=h2;exact⟨b,off,rfl,h1,fun j hj=>(hc j hj).2.2⟩
theorem NSl.shape{w:World}{v:Value}{O:List (List Int)}(h:NSl w v O):∃ ao cap,v=.slice ao O.length cap:=by
 obtain⟨ao,cap,hv,_⟩:=h.open';exact⟨ao,cap,hv⟩
theorem NSl.at{w:World}{v:Value}{O:List (List Int)}(h:NSl w v O)(h0:0<O.length):∃ b off cap,v=.slice (some ⟨b,off,none⟩) O.length cap/\b<w.heap.size/\∀ j,j<O.length->w.rangeAt b (off+j*14) (iC (O.getD j [])):=by
 obtain⟨ao,cap,hv,hc⟩:=h.open';obtain⟨b,off,rfl,h1,h2⟩:=hc h0;exact⟨b,off,cap,hv,h1,h2⟩
theorem iEnc_len{w:World}(ao:Option Addr)(len cap:Nat)(h:len≠8):Calls Tryz.prog 91 #[.slice ao len cap] w fun e w'=>e=.returned (.tuple #[.slice none 0 0,.int .i64 1])/\w=w':=by
 have hne:((len:Int) != 8)=true:=by simp;omega
 go_enter Tryz.func91,Tryz.ntmps91;go_wp2;go_ret2;exact⟨rfl,rfl⟩
def EncT7(O:List (List Int))(w:World)(e:Ending)(w':World):Prop:=
 (allF O=true/\∃ u,e=.returned (.tuple #[u,.int .i64 0])/\OB w' w.heap.size u (encT O)/\Below w.heap.size w w')\/
 (allF O=false/\e=.returned (.tuple #[.slice none 0 0,.int .i64 1])/\Below w.heap.size w w')
theorem iEnc_8{w:World}{v:Value}{O:List (List Int)}(hs:NSl w v O)(h8:O.length=8):Calls Tryz.prog 91 #[v] w (EncT7 O w):=by
 obtain⟨b,off,cap,rfl,hb,hc⟩:=hs.at (by omega);have H14:=hid hs.1;have HYE:=hid (allF_yes h8);have HNO:=hid (fun k hk h=>allF_no (k:=k) h8 hk h);have H8:=hid h8;obtain⟨M,hMM⟩:∃ M:Nat,M=256:=⟨_,rfl⟩;have HMI:Hid ((256:Int)=(M:Int)):=hid (by omega);have hM1:M<=1000:=by omega
 rw[h8] at hc |-
 have HC:=hid hc;clear hs hc h8 hMM;go_enter Tryz.func91,Tryz.ntmps91;go_wp2_with (at_make;refine Zbn _ rfl _ _ rfl 0 256 0 M rfl rfl rfl HMI.out (Nat.zero_le _) (by omega) ?_)
 have HOB3:=hid (ob_made w M hM1);have hbw3:Below w.heap.size w (w.alloc (.cells (Array.replicate M (.int .u8 0)) 5)):=Zaa _ _;generalize w.alloc (.cells (Array.replicate M (.int .u8 0)) 5)=w3 at HOB3 hbw3 |-
 go_loopw [4,13] (fun u i wr=>∃ k:Nat,k<=8/\i=.int .i64 k/\Hid (OB wr w.heap.size u (Zeg O k))/\Hid (∀ j,j<k->frmI (O.getD j [])=true)/\Below w.heap.size w wr) (fun _ i _=>8-(intOf i).toNat)
 case atStart=>exact⟨0,by omega,rfl,HOB3,fun j hj=>absurd hj (Nat.not_lt_zero _),hbw3⟩
 case round=>
  obtain⟨k,hk,rfl,HOB,HK,hbr⟩:=hrel;clear HOB3 hbw3;by_cases hlt:k<8
  . have hrg:=range_low (HC.out k hlt) hbr hb
    have hno:=HNO.out k hlt;have h14:=Zge H14.out k (by rw[H8.out];exact hlt);have hpk:Zeg O (k+1)=Zeg O k ++ enc7 (O.getD k []):=rfl;obtain⟨x,hx⟩:∃ x,x=O.getD k []:=⟨_,rfl⟩;rw[<- hx] at hrg hpk hno h14;have ek:(k:Int)<8:=by omega
    have HX:=hid hx;have HPK:=hid hpk;have HL:=hid (Zda O k);have HN1:=hid hno;have HRG:=hid hrg;have HX14:Hid (zeroI.length=x.length):=hid h14.symm;have HI14:Hid ((Tryz.prog.info? 47).map (·.size)=some x.length):=hid (by rw[infoN7,h14]);have hz:(wr.alloc (.cells #[.int .i64 0,.int .i64 0,.int .i64 0,.int .i64 0,.int .i64 0,.int .i64 0,.int .i64 0,.int .i64 0,.int .i64 0,.int .i64 0,.int .i64 0,.int .i64 0,.int .i64 0,.int .i64 0] 47)).heap[wr.heap.size]? =some (iO zeroI 47):=heap_alloc_new wr _;have hbz:=Zaa wr (.cells #[.int .i64 0,.int .i64 0,.int .i64 0,.int .i64 0,.int .i64 0,.int .i64 0,.int .i64 0,.int .i64 0,.int .i64 0,.int .i64 0,.int .i64 0,.int .i64 0,.int .i64 0,.int .i64 0] 47);have hqz:wr.heap.size<(wr.alloc (.cells #[.int .i64 0,.int .i64 0,.int .i64 0,.int .i64 0,.int .i64 0,.int .i64 0,.int .i64 0,.int .i64 0,.int .i64 0,.int .i64 0,.int .i64 0,.int .i64 0,.int .i64 0,.int .i64 0] 47)).heap.size:=by simp
    have HZ:=hid hz;have HBZ:=hid hbz;have HQZ:=hid hqz;have u1:=Tryz.underlying47;obtain⟨B,hf⟩:∃ B,frmI x=B:=⟨_,rfl⟩;have HF:=hid hf;have KF:=hid (iForm_is h14 B hf);have KW:=hid (fun h=>iWrite_of h14 (hf.trans h));clear hx hpk hno hrg h14 hz hbz hqz hf;cases B
    . go_wp2_with (first
       |(with_reducible refine Zae rfl 47 (.tmp 15) rfl b (off+k*14) rfl x _ HRG.out u1 rfl HI14.out ?_)
       |(with_reducible refine Zbl rfl 47 (.tmp 6) (.tmp 16) rfl wr.heap.size rfl x zeroI rfl HX14.out HI14.out _ HZ.out ?_
         intro w4 hw4 hr4;have hrg4:=Zel hr4;have hb4:=HBZ.out.trans (hw4.below (Nat.le_refl _)))
       |(with_reducible refine Zae rfl 47 (.tmp 6) rfl wr.heap.size 0 rfl x _ hrg4 u1 rfl HI14.out ?_)
       |(go_at_call 90;refine(KF.out _).mono ?_;rintro e w5 ⟨rfl,hb5⟩))
      go_ret2;exact .inr ⟨HN1.out HF.out,rfl,(hbr.trans (hb4.mono hbr.size)).trans (hb5.mono (Nat.le_trans hbr.size hb4.size))⟩
    . have KWT:=hid (KW.out rfl)
      clear KW
      go_wp2_with (first
       |(with_reducible refine Zae rfl 47 (.tmp 15) rfl b (off+k*14) rfl x _ HRG.out u1 rfl HI14.out ?_)
       |(with_reducible refine Zbl rfl 47 (.tmp 6) (.tmp 16) rfl wr.heap.size rfl x zeroI rfl HX14.out HI14.out _ HZ.out ?_
         intro w4 hw4 hr4;have hrg4:=Zel hr4;have hb4:=HBZ.out.trans (hw4.below (Nat.le_refl _)))
       |(with_reducible refine Zae rfl 47 (.tmp 6) rfl wr.heap.size 0 rfl x _ hrg4 u1 rfl HI14.out ?_)
       |(go_at_call 90;refine(KF.out _).mono ?_;rintro e w5 ⟨rfl,hb5⟩
         have hrg5:=range_low hrg4 hb5 (Array.getElem?_eq_some_iff.1 hr4).1;have HB5:=hid (hb4.trans (hb5.mono hb4.size));clear hrg4 hb4 hb5 hw4)
       |(with_reducible refine Zae rfl 47 (.tmp 6) rfl wr.heap.size 0 rfl x _ hrg5 u1 rfl HI14.out ?_)
       |(go_at_call 142;refine(KWT.out _).mono ?_;rintro e w6 ⟨v6,rfl,hob6,hb6⟩
         have HB6:=hid (HB5.out.trans (hb6.mono HB5.out.size));have HB06:=hid (hbr.trans (HB6.out.mono hbr.size)))
       |(at_builtin
         refine Zah w6 rfl _ _ rfl w.heap.size _ (Zeg O k) rfl (HOB.out.below HB6.out) w6 v6 (enc7 x) rfl hob6.bsl (fun _ _=>rfl) (by rw[HL.out,Zjk];omega) HB06.out.size ?_;intro v7 w7 hob7 hb7 _))
      go_roundw
      case rel=>
       refine⟨k+1,by omega,by go_num,by show OB _ _ _ (Zeg O (k+1));rw[HPK.out];exact hob7,fun j hj=>?_,HB06.out.trans hb7⟩;by_cases e:j=k
       . subst e;rw[<- HX.out];exact HF.out
       . exact HK.out j (by omega)
      case measure=>simp[intOf];omega
  . obtain rfl:k=8:=by omega
    go_wp2;go_ret2;exact .inl ⟨HYE.out HK.out,_,rfl,HOB.out,hbr⟩
theorem iEnc_any{w:World}{v:Value}{O:List (List Int)}(hs:NSl w v O):Calls Tryz.prog 91 #[v] w (EncT7 O w):=by
 by_cases h:O.length=8
 . exact iEnc_8 hs h
 . obtain⟨ao,cap,rfl⟩:=hs.shape
   refine(iEnc_len ao _ cap h).mono fun e w' ⟨he,hw⟩=>.inr ⟨?_,he,by rw[<- hw];exact Below.refl _ _⟩
   unfold allF;rw[decide_eq_false h];rfl
theorem ret_nums{fn:Func}{p:Tmp}(T:TypeId)(h:fn.results=#[.cell p T])(tmps:Array Value)(w:World)(g:Nat)(T':TypeId)(L:List Int)(d:TypeDesc)(hu:Tryz.prog.underlying T=some d)(hd:d.isRow=true)(hi:(Tryz.prog.info? T).map (·.size)=some L.length)
 (hp:tmps.getD p undef=.pointer (some ⟨g,0,none⟩)) (hg:w.heap[g]? =some (iO L T')):(results fn tmps).run Tryz.prog w=.ok (.agg (iC L).toArray) w:=
 results_cell_row h tmps w g T' _ (0,0) _ hp hg hu (by cases d <;> first|rfl|cases hd) (by rw[hi];simp[iC])
set_option maxHeartbeats 2000000 in
theorem iRead_of{w:World}{v:Value}{c:List Int}(hs:BSl w v c)(hc:c.length=32):Calls Tryz.prog 153 #[v] w fun e w'=>e=.returned (.agg (iC (rd7 c)).toArray)/\Below w.heap.size w w':=by
 have HS:=hid hs;have HCL:=hid hc;clear hs hc;obtain⟨w2,hw2⟩:∃ w2,w2=(w.alloc (iO zeroI 47)).alloc (iO zeroI 47):=⟨_,rfl⟩;have h2:(w.alloc (.cells #[.int .i64 0,.int .i64 0,.int .i64 0,.int .i64 0,.int .i64 0,.int .i64 0,.int .i64 0,.int .i64 0,.int .i64 0,.int .i64 0,.int .i64 0,.int .i64 0,.int .i64 0,.int .i64 0] 47)).alloc (.cells #[.int .i64 0,.int .i64 0,.int .i64 0,.int .i64 0,.int .i64 0,.int .i64 0,.int .i64 0,.int .i64 0,.int .i64 0,.int .i64 0,.int .i64 0,.int .i64 0,.int .i64 0,.int .i64 0] 47)=w2:=by rw[hw2];rfl
 have hb2:Below w.heap.size w w2:=by rw[hw2];exact((Below.refl _ _).alloc (Nat.le_refl _) _).alloc (by simp) _
 have hr0:w2.heap[w.heap.size]? =some (iO zeroI 47):=by rw[hw2,@heap_alloc_old _ _ _ (by simp)];exact heap_alloc_new _ _
 have hr1:w2.heap[w.heap.size+1]? =some (iO zeroI 47):=by rw[hw2];exact heap_alloc2_new _ _ _
 have hz2:w2.heap.size=w.heap.size+2:=by rw[hw2];simp
 have H2:=hid h2;have HR0:=hid hr0;have HR1:=hid hr1;clear h2 hw2 hr0 hr1;go_enter Tryz.func153,Tryz.ntmps153
 go_wp2_with (first
  |(go_at_call 176;rw[H2.out];refine(iFields_of _ _).mono ?_;rintro e w4 ⟨rfl,hb4⟩))
 obtain⟨gs,hgs⟩:∃ gs,gs=w.heap.size+1:=⟨_,rfl⟩;have hgs4:w4.heap[gs]? =some (iO (Zir c 0) 47):=by rw[hgs,hb4.block _ (by omega),rdTo7_zero];exact HR1.out
 have hgr4:w4.heap[w.heap.size]? =some (iO zeroI 47):=by rw[hb4.block _ (by omega)];exact HR0.out
 have hb04:Below w.heap.size w w4:=hb2.trans (hb4.mono (by omega));have hgsl:gs<w4.heap.size:=(Array.getElem?_eq_some_iff.1 hgs4).1;have hwl:w.heap.size<w4.heap.size:=by omega
 rw[<- hgs];have HIX:=hid (fun W j hj=>idx_fs7 W gs j hj);obtain⟨F,hF⟩:∃ F,F=(fldC gs 14).toArray:=⟨_,rfl⟩;rw[<- hF] at HIX |-
 have HG:=hid hgs;have HB04:=hid hb04;have HGR:=hid hgr4;clear hgs hb04 hgr4 hb4 hz2 hb2 hF;go_loopw [4,10] (fun at_ i wr=>∃ j:Nat,j<=14/\i=.int .i64 j/\at_=.int .i64 (p7 j:Int)/\Hid (wr.heap[gs]? =some (iO (Zir c j) 47))/\Hid (KeptG w4 wr gs)) (fun _ i _=>14-(intOf i).toNat)
 case atStart=>exact⟨0,by omega,rfl,rfl,hgs4,KeptG.refl _ _⟩
 case round=>
  obtain⟨j,hj,rfl,rfl,HRW,HKP⟩:=hrel;clear hgs4;by_cases hlt:j<14
  . have hix:=HIX.out wr j hlt
    have hy0:=getV7 HS.out.1 j;have hwd:=w7_le j;have hps:=p7_in j hlt;have hcl:=HCL.out;have hgn:=fun W (h:BSl W v c)=>pGetW h (by omega) (p7 j) (w7 j) (p7 j:Int) (w7 j:Int) rfl rfl (by omega) (by omega) (by omega) _ rfl
    have hset:=rdTo7_set c j;obtain⟨y,hy⟩:∃ y,y=getV c (p7 j) (w7 j):=⟨_,rfl⟩;rw[<- hy] at hy0 hgn hset;have hnx:p7 (j+1)=p7 j+w7 j:=rfl;obtain⟨P,hP⟩:∃ P,P=p7 j:=⟨_,rfl⟩;obtain⟨k,hk⟩:∃ k,k=w7 j:=⟨_,rfl⟩;rw[<- hP] at hps hgn hnx |-
    rw[<- hk] at hwd hps hgn hnx hix;have HGET:=hid hgn;have HSET:=hid hset;have ej:(j:Int)<14:=by omega
    have hgw:gs<wr.heap.size:=Nat.lt_of_lt_of_le hgsl HKP.out.2.2.2.1;have HNX:=hid hnx;have hbw:=HB04.out.trans (HKP.out.below (B:=w.heap.size) (by have:=HG.out;omega) (by omega));have HBW:=hid hbw;clear hy hP hk hset hgn hnx hbw hcl;have hwsz:wr.heap.size≠gs:=by omega
    go_wp2_with (first
     |(go_at_call 144
       have hb5:=Zaa wr (.cells #[.pointer (some ⟨gs,j,none⟩),.int .i64 (k:Int)] 245);have hh5:=heap_alloc_new wr (.cells #[.pointer (some ⟨gs,j,none⟩),.int .i64 (k:Int)] 245);generalize wr.alloc (.cells #[.pointer (some ⟨gs,j,none⟩),.int .i64 (k:Int)] 245)=W5 at hb5 hh5 |-
       have hr5:W5.heap[gs]? =some (iO (Zir c j) 47):=(hb5.block _ hgw).trans HRW.out;have c0:W5.cell? ⟨wr.heap.size,0,none⟩=some (.pointer (some ⟨gs,j,none⟩)):=by rw[cell_of_row _ _ _ _ _ _ hh5];rfl
       have c1:W5.cell? ⟨wr.heap.size,1,none⟩=some (.int .i64 (k:Int)):=by rw[cell_of_row _ _ _ _ _ _ hh5];rfl
       have ck:=Zev hr5 j (by rw[Zfg];exact hlt);have fk:=io_free hr5 j;have hw6:=Wrote.setCell W5 gs j (.int .i64 y);have c6:(W5.setCell ⟨gs,j,none⟩ (.int .i64 y)).cell? ⟨wr.heap.size,1,none⟩=some (.int .i64 (k:Int)):=by
        simp only[World.cell?];rw[hw6.2.2.2.2 _ hwsz];exact c1
       have hr6:=io_set hr5 j y;rw[HSET.out] at hr6;have HK6:=hid ((HKP.out.then hb5).wrote hw6);have HR6:=hid hr6;have HB5:=hid (HBW.out.trans (hb5.mono HBW.out.size));clear hb5 hh5 hr5 hr6 hw6 hwsz;refine(HGET.out _ (HS.out.below HB5.out)).mono ?_;rintro e w' ⟨rfl,rfl⟩))
    go_roundw
    case rel=>exact⟨j+1,by omega,by go_num,by rw[HNX.out];go_num,HR6.out,HK6.out⟩
    case measure=>simp[intOf];omega
  . obtain rfl:j=14:=by omega
    have hgrw:wr.heap[w.heap.size]? =some (iO zeroI 47):=by rw[HKP.out.2.2.2.2 _ hwl (by have:=HG.out;omega)];exact HGR.out
    have hlen:=Zfg c 14;have HRG:=hid (Zel HRW.out);have HI:Hid ((Tryz.prog.info? 47).map (·.size)=some (Zir c 14).length):=hid (by rw[infoN7,hlen]);have HZL:Hid (zeroI.length=(Zir c 14).length):=hid (by rw[hlen];rfl);have HBW:=hid (HB04.out.trans (HKP.out.below (B:=w.heap.size) (by have:=HG.out;omega) (by omega)));have u1:=Tryz.underlying47
    go_wp2_with (first
     |(with_reducible refine Zae rfl 47 (.tmp 3) rfl gs 0 rfl (Zir c 14) _ HRG.out u1 rfl HI.out ?_)
     |(with_reducible refine Zbl rfl 47 (.tmp 2) (.tmp 31) rfl w.heap.size rfl (Zir c 14) zeroI rfl HZL.out HI.out _ hgrw ?_;intro w7 hw7 hr7))
    refine bodyPost_ret (ret_nums 47 rfl _ _ w.heap.size _ _ _ u1 rfl HI.out rfl hr7) rfl ⟨by rw[rdTo7_full],HBW.out.trans (hw7.below (Nat.le_refl _))⟩
theorem flat14{O:List (List Int)}(h:Zgq O):∀ x∈O,(iC x).length=14:=fun x hx=>by rw[Zao];exact h x hx
def nC(O:List (List Int)):List Value:=O.flatMap iC
theorem Zjy{O:List (List Int)}(h:Zgq O):(nC O).length=O.length*14:=Zaw (flat14 h)
def NR(w:World)(B:Nat)(T:TypeId)(v:Value)(O:List (List Int)):Prop:=Zgq O/\w.ownsRow B T 14 v O.length (nC O)
theorem NR.sl{w:World}{B:Nat}{T:TypeId}{v:Value}{O:List (List Int)}(h:NR w B T v O):NSl w v O:=by
 refine⟨h.1,?_⟩;rcases h.2.2 with⟨hv,hl⟩| ⟨g,cap,cur,hv,hg,hh,hnc,hcm,hcs,ht⟩
 . exact .inl ⟨hv,List.eq_nil_of_length_eq_zero hl⟩
 . refine .inr ⟨_,cap,hv,fun j hj=>⟨(Array.getElem?_eq_some_iff.1 hh).1,rfl,fun i u hu=>?_⟩⟩
   have hlen:(O.getD j []).length=14:=Zge h.1 j hj;have hi:i<14:=by have:=(List.getElem?_eq_some_iff.1 hu).1;rw[Zao,hlen] at this;exact this
   have hle:j*14+14<=O.length*14:=by omega
   show w.cell? ⟨g,0+j*14+i,none⟩=_
   rw[Nat.zero_add,cell_of_row _ _ _ _ _ _ hh];have hf:=Zfj (f:=iC) (s:=14) (L:=O) (flat14 h.1) j hj;have e:O.getD j []=O[j]:=by simp[List.getD_eq_getElem?_getD,hj]
   rw[e,<- hf,List.getElem?_take,if_pos hi,List.getElem?_drop] at hu;have ht':(cur.toList.take (O.length*14))[j*14+i]? =(nC O)[j*14+i]? :=by rw[ht]
   rw[List.getElem?_take,if_pos (by omega)] at ht';rw[nC,hu] at ht'
   simpa using ht'
theorem NR.of_row{w:World}{B g:Nat}{T:TypeId}{O:List (List Int)}(h:Zgq O)(hB:B<=g)(hg:w.heap[g]? =some (.cells (nC O).toArray T (0,0)))(hm:O.length<=maxLen):NR w B T (.slice (some ⟨g,0,none⟩) O.length O.length) O:=by
 refine⟨h,Zjy h,.inr ⟨g,O.length,_,rfl,hB,hg,Nat.le_refl _,hm,by simp[Zjy h],?_⟩⟩;rw[List.take_of_length_le (by simp[Zjy h])]
theorem infoNz:(Tryz.prog.info? 47).map (fun i=>(i.zero,i.size,i.bytes))=some (some (.agg #[.int .i64 0,.int .i64 0,.int .i64 0,.int .i64 0,.int .i64 0,.int .i64 0,.int .i64 0,.int .i64 0,.int .i64 0,.int .i64 0,.int .i64 0,.int .i64 0,.int .i64 0,.int .i64 0]),14,112):=by kernel_rfl
theorem flat_rep{α:Type}(f:α->List Value)(x:α)(s:Nat)(hs:(f x).length=s):∀ (n i:Nat),i<n*s->((List.replicate n x).flatMap f)[i]? =(f x)[i%s]?
 |0,i,h=>by omega
 |n+1,i,h=>by
  rw[List.replicate_succ,List.flatMap_cons];by_cases hi:i<s
  . rw[List.getElem?_append_left (by omega),Nat.mod_eq_of_lt hi]
  . rw[List.getElem?_append_right (by omega),hs,flat_rep f x s hs n (i-s) (by rw[Nat.succ_mul] at h;omega),show i%s=(i-s)%s from Nat.mod_eq_sub_mod (by omega)]
theorem made_ino(n:Nat):madeCells (Value.agg #[.int .i64 0,.int .i64 0,.int .i64 0,.int .i64 0,.int .i64 0,.int .i64 0,.int .i64 0,.int .i64 0,.int .i64 0,.int .i64 0,.int .i64 0,.int .i64 0,.int .i64 0,.int .i64 0]).cells (n*14)=(nC (List.replicate n zeroI)).toArray:=by
 have hl:(nC (List.replicate n zeroI)).length=n*14:=by
  rw[Zjy (fun x hx=>by rw[List.eq_of_mem_replicate hx];rfl),List.length_replicate]
 apply Array.ext
 . simp[size_madeCells,hl]
 . intro i h1 h2
   have hi:i<n*14:=by simpa [size_madeCells] using h1
   have hz:=flat_rep iC zeroI 14 rfl n i hi;have h3:(nC (List.replicate n zeroI))[i]? =some (.int .i64 0):=by
    rw[nC,hz];have:i%14<14:=Nat.mod_lt _ (by decide);have:i%14=0\/i%14=1\/i%14=2\/i%14=3\/i%14=4\/i%14=5\/i%14=6\/i%14=7\/i%14=8\/i%14=9\/i%14=10\/i%14=11\/i%14=12\/i%14=13:=by omega
    rcases this with e|e|e|e|e|e|e|e|e|e|e|e|e|e <;> rw[e] <;> rfl
   have h4:(nC (List.replicate n zeroI)).toArray[i]=.int .i64 0:=by
    have:=(List.getElem?_eq_some_iff.1 h3).2
    simpa using this
   rw[h4];simp only[madeCells,Value.cells,Array.getElem_map,Array.getElem_range];have:i%14<14:=Nat.mod_lt _ (by decide);have:i%14=0\/i%14=1\/i%14=2\/i%14=3\/i%14=4\/i%14=5\/i%14=6\/i%14=7\/i%14=8\/i%14=9\/i%14=10\/i%14=11\/i%14=12\/i%14=13:=by omega
   rcases this with e|e|e|e|e|e|e|e|e|e|e|e|e|e <;> simp[e]
theorem wpList_make_ino(w:World){ops:Array Oper}{rest:List Oper}{o:Oper}{a:Act}{Q:Exit->Act->World->Prop}
 (hg:o.guard=none) (l c:Operand) (hop:o.op=Op.makeSlice 82 l c) (C:Int) (n:Nat) (hl:a.eval l=.int .i64 C) (hc:a.eval c=.int .i64 C) (hC:C=n) (hn:n<=1000000)
 (hK:wpList Tryz.prog ops Q rest (a.put o.dst (.slice (some ⟨w.heap.size,0,none⟩) n n)) (w.alloc (.cells (nC (List.replicate n zeroI)).toArray 47))):
 wpList Tryz.prog ops Q (o :: rest) a w:=by
 refine wpList_plain hg fun K hK'=>?_
 obtain⟨i,h2,h3,h4,h5⟩:=info_parts infoNz;subst hC;have hrun:=run_make (P:=Tryz.prog) w 82 47 i (.agg #[.int .i64 0,.int .i64 0,.int .i64 0,.int .i64 0,.int .i64 0,.int .i64 0,.int .i64 0,.int .i64 0,.int .i64 0,.int .i64 0,.int .i64 0,.int .i64 0,.int .i64 0,.int .i64 0]) Tryz.underlying82 h2 h3 .i64 .i64 n n (by omega) (by omega) (by rw[h5];omega) (by omega);unfold Oper.wp;simp only[Int.toNat_natCast,h4,made_ino] at hrun;simp[execOp,hop,hl,hc,hrun,Result.andThen];exact hK' _ _ hK
end Go.Proofs.YtedabomlfcghoaaGreat
