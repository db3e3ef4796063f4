/- What the law rests on: part 12. -/
import Derived.Maps.RangeWalk
import Derived.Test.YtedabomlfcghoaaGreatKG11
set_option linter.unusedVariables false
namespace Go.Proofs.YtedabomlfcghoaaGreat
set_option maxRecDepth 100000
open Go.RowKit
theorem sLoggable_is(w:World)(n:Int):Calls Tryz.prog 115 #[.int .i64 n] w fun e w'=>e=.returned (.bool (decide (n<768)))/\w=w':=by
 go_enter Tryz.func115,Tryz.ntmps115;go_wp2;go_ret;trivial
section
variable {w:World}{Pd:Nat->Prop}{b be bp:Nat}{d:Value}{q:Int}{ek:List Int}{eg:Int->Value}{ev:Int->List Int}{pk:List Int}{pg:Int->Value}{pv:Int->List Int}{wi:Bool}{ds:DS}
theorem Zlc(h:SMem w Pd b be bp d q ek eg ev pk pg pv wi ds):Calls Tryz.prog 65 #[.pointer (some ⟨b,0,none⟩)] w fun e w'=>e=.returned (.int .i64 0)/\w=w':=by
 have c5:=h.c5;clear h;go_enter Tryz.func65,Tryz.ntmps65;go_wp2;go_ret;exact⟨rfl,rfl⟩
theorem Zcv(h:SMem w Pd b be bp d q ek eg ev pk pg pv wi ds)(x:Bool):Calls Tryz.prog 37 #[.pointer (some ⟨b,0,none⟩),.bool x] w fun e w'=>e=.returned (.int .i64 (if wi=x then 0 else 17))/\w=w':=by
 have KU:=hid (Zlc h);have c4:=h.c4;clear h;go_enter Tryz.func37,Tryz.ntmps37;go_wp2_with (go_at_call 65;refine KU.out.mono ?_;rintro e w' ⟨rfl,rfl⟩)
 all_goals (cases wi <;> cases x <;> simp_all <;> go_ret <;> exact⟨rfl,rfl⟩)
theorem sHas_is(h:SMem w Pd b be bp d q ek eg ev pk pg pv wi ds)(n:Int):Calls Tryz.prog 104 #[.pointer (some ⟨b,0,none⟩),.int .i64 n] w fun e w'=>e=.returned (.bool (decide (0<=n/\n<ds.F.length)))/\w=w':=by
 have KB:=hid (kBlocks h.dk);have c0:=h.c0;clear h;by_cases h0:0<=n
 . have e1:decide (0<=n/\n<ds.F.length)=decide (n<ds.F.length):=by simp[h0]
   rw[e1];go_enter Tryz.func104,Tryz.ntmps104;go_wp2_with (go_at_call 149;refine KB.out.mono ?_;rintro e w' ⟨rfl,rfl⟩)
   go_ret;exact⟨rfl,rfl⟩
 . have e1:decide (0<=n/\n<ds.F.length)=false:=by simp[h0]
   rw[e1];go_enter Tryz.func104,Tryz.ntmps104;go_wp2_with (go_at_call 149;refine KB.out.mono ?_;rintro e w' ⟨rfl,rfl⟩)
   go_ret;exact⟨rfl,rfl⟩
theorem sChanged_is(h:SMem w Pd b be bp d q ek eg ev pk pg pv wi ds){n:Int}(hn:(Lit.int .i64 n).wf=true):Calls Tryz.prog 105 #[.pointer (some ⟨b,0,none⟩),.int .i64 n] w fun e w'=>
 e=.returned (.tuple #[if n∈pk then pg n else if n∈ek then eg n else .slice none 0 0,.bool (decide (n∈pk) || decide (n∈ek))])/\w=w':=by
 have c2:=h.c2;have c3:=h.c3;have le:=h.me.look_ok hn;have lp:=h.mp.look_ok hn;clear h;obtain⟨x,hx⟩:∃ x,x=(if n∈ek then eg n else .slice none 0 0):=⟨_,rfl⟩;obtain⟨y,hy⟩:∃ y,y=(if n∈pk then pg n else .slice none 0 0):=⟨_,rfl⟩;obtain⟨xb,hxb⟩:∃ xb,xb=decide (n∈ek):=⟨_,rfl⟩;rw[<- hx,<- hxb] at le;rw[<- hy] at lp;by_cases hp:n∈pk
 . rw[if_pos hp] at hy |-
   rw[decide_eq_true hp] at lp |-
   rw[<- hy];clear hp hx hxb hy le;go_enter Tryz.func105,Tryz.ntmps105;go_wp2;go_ret2;exact⟨rfl,rfl⟩
 . rw[if_neg hp]
   rw[decide_eq_false hp] at lp |-
   rw[<- hx,<- hxb];clear hp hx hxb hy;go_enter Tryz.func105,Tryz.ntmps105;go_wp2;go_ret2;exact⟨rfl,rfl⟩
end
theorem sizeSt:(Tryz.prog.info? 92).map (·.size)=some 6:=by kernel_rfl
theorem wpList_store_st{ops:Array Oper}{rest:List Oper}{o:Oper}{a:Act}{w:World}{Q:Exit->Act->World->Prop}(hgd:o.guard=none)(x y:Operand)(ho:o.op=.store 92 x y)
 (g:Nat) (hx:a.eval x=.pointer (some ⟨g,0,none⟩)) (c0 c1 c2 c3 c4 c5 d0 d1 d2 d3 d4 d5:Value) (hy:a.eval y=.agg #[d0,d1,d2,d3,d4,d5]) (h0:d0.oneCell'=true) (h1:d1.oneCell'=true) (h2:d2.oneCell'=true) (h3:d3.oneCell'=true) (h4:d4.oneCell'=true) (h5:d5.oneCell'=true)
 (hg:w.heap[g]? =some (.cells #[c0,c1,c2,c3,c4,c5] 92 (0,0)))
 (h:∀ w',Wrote w w' g->w'.heap[g]? =some (.cells #[d0,d1,d2,d3,d4,d5] 92 (0,0))->wpList Tryz.prog ops Q rest (a.put o.dst undef) w'):wpList Tryz.prog ops Q (o :: rest) a w:=
 wpList_store_row hgd 92 x y ho g #[d0,d1,d2,d3,d4,d5] hx hy 92 _ hg sizeSt rfl (by simp[h0,h1,h2,h3,h4,h5]) (h _ (Wrote.setRow _ _ _) (setRow_heap _ _ _ _ _ _ hg))
theorem sMet_ok(p:Value)(w:World)(e:Int)(he:e≠2):Calls Tryz.prog 108 #[p,.int .i64 e] w fun e' w'=>e'=.returned (.int .i64 e)/\w=w':=by
 go_enter Tryz.func108,Tryz.ntmps108;go_wp2;go_ret;exact⟨rfl,rfl⟩
section
variable {w:World}{Pd:Nat->Prop}{b be bp:Nat}{d:Value}{q:Int}{ek:List Int}{eg:Int->Value}{ev:Int->List Int}{pk:List Int}{pg:Int->Value}{pv:Int->List Int}{wi:Bool}{ds:DS}
theorem sMet_io(h:SMem w Pd b be bp d q ek eg ev pk pg pv wi ds):Calls Tryz.prog 108 #[.pointer (some ⟨b,0,none⟩),.int .i64 2] w fun e w'=>e=.returned (.int .i64 2)/\Wrote w w' b/\w'.heap[b]? =some (.cells #[.pointer none,.int .u32 0,.map none,.map none,.bool false,.bool true] 92 (0,0)):=by
 have hb:=h.hb;clear h;go_enter Tryz.func108,Tryz.ntmps108;go_wp2_with (refine wpList_store_st rfl _ _ (by rfl) b (by rfl) _ _ _ _ _ _ _ _ _ _ _ _ (by rfl) rfl rfl rfl rfl rfl rfl hb ?_;intro w2 hw2 hb2)
 go_ret;exact⟨rfl,hw2,hb2⟩
end
theorem SMem.setwi{w w':World}{Pd:Nat->Prop}{b be bp:Nat}{d:Value}{q:Int}{ek:List Int}{eg:Int->Value}{ev:Int->List Int}{pk:List Int}{pg:Int->Value}{pv:Int->List Int}{wi wi':Bool}{ds:DS}(h:SMem w Pd b be bp d q ek eg ev pk pg pv wi ds)
 (hw:Wrote w w' b) (hb:w'.heap[b]? =some (.cells #[d,.int .u32 q,.map (some be),.map (some bp),.bool wi',.bool false] 92 (0,0))):SMem w' Pd b be bp d q ek eg ev pk pg pv wi' ds:=
 ⟨hb,h.dk.same fun k hk=>hw.2.2.2.2 k fun e=>h.nd (e ▸ hk),h.q0,h.me.keep (hw.2.2.2.2 be h.nb.1),h.mp.keep (hw.2.2.2.2 bp h.nb.2),h.ne,
   fun x hx=>(h.re x hx).keep fun g hg=>hw.2.2.2.2 g ((h.re x hx).ne hg h.hb (by decide)),fun x hx=>(h.rp x hx).keep fun g hg=>hw.2.2.2.2 g ((h.rp x hx).ne hg h.hb (by decide))⟩
theorem setCell_row4{w:World}{b:Nat}{c0 c1 c2 c3 c4 c5:Value}{T:TypeId}(h:w.heap[b]? =some (.cells #[c0,c1,c2,c3,c4,c5] T (0,0)))(x:Value):(w.setCell ⟨b,4,none⟩ x).heap[b]? =some (.cells #[c0,c1,c2,c3,x,c5] T (0,0)):=by
 rw[heap_setCell_same w b 4 _ _ x h];rfl
section
variable {w:World}{P:Nat->Prop}{d p:Value}{X:XSt}
theorem sBegin_of(h:SInv w P d p X):Calls Tryz.prog 18 #[p] w (XOut SInv w P d p (xBegin X)):=by
 obtain⟨b,be,bp,Pd,q,ek,eg,ev,pk,pg,pv,rfl,hm,hpl,ho,hl⟩:=h;unfold xBegin XOut;cases hw:X.wi
 . have KA:=hid (Zcv hm false)
   rw[hw] at KA;have HB:=hid hm.hb;have c4:=hm.c4;have f4:=hm.fr 4;rw[hw] at c4;refine Calls.mono (R:=fun e w'=>e=.returned (.int .i64 0)/\w'=w.setCell ⟨b,4,none⟩ (.bool true)) ?_ ?_
   . clear hm hpl ho hl hw HB
     go_enter Tryz.func18,Tryz.ntmps18;go_wp2_with (go_at_call 37;refine KA.out.mono ?_;rintro e w' ⟨rfl,rfl⟩)
     go_ret;exact⟨rfl,rfl⟩
   . rintro e w' ⟨rfl,rfl⟩
     have hwr:=Wrote.setCell w b 4 (.bool true);have hm':=hm.setwi (wi':=true) hwr (setCell_row4 HB.out _);refine⟨rfl,P,⟨b,be,bp,Pd,q,ek,eg,ev,pk,pg,pv,rfl,hm',?_,ho,fun k hk=>by rw[hwr.2.2.2.1];exact hl k hk⟩,?_⟩
     . have hp0:=hpl.wi0 hw
       refine { hpl with ok:={ hpl.ok with call:=fun _=>rfl },wi0:=fun e=>(by cases e),wi1:=fun _=>⟨hp0.symm,rfl,fun i _ _=>?_⟩ };rw[hp0,if_neg List.not_mem_nil];rfl
     . exact⟨hwr.1,hwr.2.1,hwr.2.2.1,Nat.le_of_eq hwr.2.2.2.1.symm,fun k _ hn=>⟨hwr.2.2.2.2 k fun e=>hn (e ▸ ho b (.inr (.inl rfl))),hn⟩⟩
 . have KA:=hid (Zcv hm false)
   rw[hw] at KA;refine Calls.mono (R:=fun e w'=>e=.returned (.int .i64 17)/\w=w') ?_ ?_
   . clear hm hpl ho hl hw
     go_enter Tryz.func18,Tryz.ntmps18;go_wp2_with (go_at_call 37;refine KA.out.mono ?_;rintro e w' ⟨rfl,rfl⟩)
     go_ret;exact⟨rfl,rfl⟩
   . rintro e w' ⟨rfl,rfl⟩
     exact⟨rfl,P,⟨b,be,bp,Pd,q,ek,eg,ev,pk,pg,pv,rfl,hm,hpl,ho,hl⟩,Chg.refl _ _⟩
theorem sGet_out(h:SInv w P d p X){n:Int}(hn:n<0\/(X.is.length:Int)<=n):Calls Tryz.prog 61 #[p,.int .i64 n] w fun e w'=>e=.returned (.tuple #[.slice none 0 0,.int .i64 1])/\∃ P',SInv w' P' d p X/\Chg P P' w w':=by
 have h':=h;obtain⟨b,be,bp,Pd,q,ek,eg,ev,pk,pg,pv,rfl,hm,hpl,ho,hl⟩:=h;have KU:=hid (Zlc hm);have KH:=hid (sHas_is hm n);rw[decide_eq_false (by have:=hpl.ok.lst.1;omega)] at KH;refine Calls.mono (R:=fun e w'=>e=.returned (.tuple #[.slice none 0 0,.int .i64 1])/\w=w') ?_ ?_
 . clear hm hpl ho hl hn h'
   go_enter Tryz.func61,Tryz.ntmps61
   go_wp2_with (first
    |(go_at_call 65;refine KU.out.mono ?_;rintro e w' ⟨rfl,rfl⟩)
    |(go_at_call 104;refine KH.out.mono ?_;rintro e w' ⟨rfl,rfl⟩))
   go_ret2;exact⟨rfl,rfl⟩
 . rintro e w' ⟨rfl,rfl⟩
   exact⟨rfl,P,h',Chg.refl _ _⟩
theorem sGet_row(h:SInv w P d p X){n:Nat}(hn:n<X.is.length):Calls Tryz.prog 61 #[p,.int .i64 n] w fun e w'=>∃ v l,e=.returned (.tuple #[v,.int .i64 0])/\(∃ g cap T rest,Rw w' w.heap.size v l g cap T rest)/\(OutJ n->l=(if X.wi=true then X.call else X.is).getD n [])/\Below w.heap.size w w':=by
 have h':=h;obtain⟨b,be,bp,Pd,q,ek,eg,ev,pk,pg,pv,rfl,hm,hpl,ho,hl⟩:=h;have hFl:=hpl.ok.lst.1;have h768:=hpl.n64.2;have hwf:(Lit.int .i64 (n:Int)).wf=true:=i64wf (by omega);have KU:=hid (Zlc hm);have KH:=hid (sHas_is hm n);have KC:=hid (sChanged_is hm hwf);rw[decide_eq_true (by omega)] at KH;have hcall:OutJ n->(if X.wi=true then X.call else X.is).getD n []=if (n:Int)∈pk then pv n else if (n:Int)∈ek then ev n else X.base.getD n []:=fun ho=>by
  have h1:=hpl.isx n ho hn;cases hw:X.wi
  . have h0:=hpl.wi0 hw
    rw[if_neg (by decide),h1,h0,if_neg List.not_mem_nil]
  . obtain⟨_,_,h2⟩:=hpl.wi1 hw
    rw[if_pos rfl,h2 n ho hn,h1]
 by_cases hin:(n:Int)∈pk\/(n:Int)∈ek
 . obtain⟨v,hv⟩:∃ v,v=(if (n:Int)∈pk then pg n else if (n:Int)∈ek then eg n else .slice none 0 0):=⟨_,rfl⟩
   obtain⟨l,hl'⟩:∃ l,l=(if (n:Int)∈pk then pv n else if (n:Int)∈ek then ev n else X.base.getD n []):=⟨_,rfl⟩;have hblo:Blo w v l:=by
    rw[hv,hl'];by_cases hp:(n:Int)∈pk
    . rw[if_pos hp,if_pos hp];exact hm.rp _ hp
    . rw[if_neg hp,if_neg hp,if_pos (hin.resolve_left hp),if_pos (hin.resolve_left hp)];exact hm.re _ (hin.resolve_left hp)
   have hd:(decide ((n:Int)∈pk) || decide ((n:Int)∈ek))=true:=by simpa using hin
   rw[<- hv,hd] at KC;have KB:=hid (bClone_of hblo.1.bsl (by rw[hblo.2];decide));refine Calls.mono (R:=fun e w'=>∃ v',e=.returned (.tuple #[v',.int .i64 0])/\OB w' w.heap.size v' l/\Below w.heap.size w w') ?_ ?_
   . clear hm hpl ho hl h' hcall hin hv hl' hblo hd hwf hFl h768 hn
     go_enter Tryz.func61,Tryz.ntmps61
     go_wp2_with (first
      |(go_at_call 65;refine KU.out.mono ?_;rintro e w' ⟨rfl,rfl⟩)
      |(go_at_call 104;refine KH.out.mono ?_;rintro e w' ⟨rfl,rfl⟩)
      |(go_at_call 105;refine KC.out.mono ?_;rintro e w' ⟨rfl,rfl⟩)
      |(go_at_call 106;refine KB.out.mono ?_;rintro e w' ⟨v',rfl,hob,hbe⟩))
     go_ret2;exact⟨v',rfl,hob,hbe⟩
   . rintro e w' ⟨v',rfl,hob,hbe⟩
     exact⟨v',l,rfl,hob.rw' hblo.2,fun ho=>by rw[hcall ho,hl'],hbe⟩
 . have hd:(decide ((n:Int)∈pk) || decide ((n:Int)∈ek))=false:=by simpa using hin
   rw[hd] at KC;have hnp:(n:Int) ∉ pk:=fun e=>hin (.inl e)
   have hne:(n:Int) ∉ ek:=fun e=>hin (.inr e)
   rw[if_neg hnp,if_neg hne] at KC;have KR:=hid (kReadR hm.dk n (by omega) hpl.ok.pow);have KM:=hid (fun(W:World)=>sMet_ok (.pointer (some ⟨b,0,none⟩)) W 0 (by decide));have c0:=hm.c0;refine Calls.mono (R:=fun e w'=>∃ v',e=.returned (.tuple #[v',.int .i64 0])/\(∃ g cap T rest,Rw w' w.heap.size v' (X.ds.vis.getD n []) g cap T rest)/\Below w.heap.size w w') ?_ ?_
   . clear hm hpl ho hl h' hcall hin hd hwf hFl h768 hn hnp hne
     go_enter Tryz.func61,Tryz.ntmps61
     go_wp2_with (first
      |(go_at_call 65;refine KU.out.mono ?_;rintro e w' ⟨rfl,rfl⟩)
      |(go_at_call 104;refine KH.out.mono ?_;rintro e w' ⟨rfl,rfl⟩)
      |(go_at_call 105;refine KC.out.mono ?_;rintro e w' ⟨rfl,rfl⟩)
      |(go_at_call 107;refine KR.out.mono ?_;rintro e w' ⟨v',rfl,hbs,hbe⟩)
      |(go_at_call 108;refine(KM.out _).mono ?_;rintro e w'' ⟨rfl,rfl⟩))
     go_ret2;exact⟨_,rfl,⟨_,_,_,_,hbs⟩,hbe⟩
   . rintro e w' ⟨v',rfl,hbs,hbe⟩
     refine⟨v',_,rfl,hbs,fun ho=>?_,hbe⟩;rw[hcall ho,if_neg hnp,if_neg hne];have hg:=hpl.ok.lst.glen;exact hpl.ok.lst.2.1.2 n ho (by omega)
theorem sGet_own(h:SInv w P d p X){n:Nat}(hn:n<X.is.length):Calls Tryz.prog 61 #[p,.int .i64 n] w fun e w'=>∃ v l,e=.returned (.tuple #[v,.int .i64 0])/\BSl w' v l/\(OutJ n->l=(if X.wi=true then X.call else X.is).getD n [])/\Below w.heap.size w w':=
 (sGet_row h hn).mono fun e w' ⟨v,l,he,⟨_,_,_,_,hr⟩,hj,hb⟩=>⟨v,l,he,hr.bsl,hj,hb⟩
theorem sGet_in(h:SInv w P d p X){n:Nat}(hn:n<X.is.length):Calls Tryz.prog 61 #[p,.int .i64 n] w fun e w'=>∃ v l,e=.returned (.tuple #[v,.int .i64 0])/\BSl w' v l/\(OutJ n->l=(if X.wi=true then X.call else X.is).getD n [])/\∃ P',SInv w' P' d p X/\Chg P P' w w':=by
 have hl:=h;obtain⟨b,be,bp,Pd,q,ek,eg,ev,pk,pg,pv,rfl,hm,hpl,ho,hl'⟩:=hl;exact(sGet_own h hn).mono fun e w' ⟨v,l,he,hb,hj,hbe⟩=>⟨v,l,he,hb,hj,P,h.keep hbe.size fun k hk=>hbe.block k (hl' k hk),Chg.of_below hbe⟩
end
end Go.Proofs.YtedabomlfcghoaaGreat
namespace Go.Proofs.YtedabomlfcghoaaGreat
set_option maxRecDepth 100000
open Go.RowKit BM
theorem spLaid_is{w:World}{v:Value}{O:List (Int × Int)}(hs:OwSl w v O)(hO:O.length=64){g:Nat}(hg:g<12)(hx:∀ j,j<64->decide ((O.getD j (0,0)).1=65535)=fixB (64*(g:Int)+j)):
 Calls Tryz.prog 97 #[.int .i64 g,v] w fun e w'=>e=.returned (.bool true)/\Below w.heap.size w w':=by
 obtain⟨b,off,cap,rfl,hb,hc⟩:=hs.at (by omega);have HC:=hid hc;have HBB:=hid hs.1;have HX:=hid hx;have HO:=hid hO;rw[hO];clear hc hs hx hO;go_enter Tryz.func97,Tryz.ntmps97;go_wp2;go_loopw [9] (fun i wr=>∃ k:Nat,k<=64/\i=.int .i64 k/\Below w.heap.size w wr) (fun i _=>64-(intOf i).toNat)
 case atStart=>exact⟨0,by omega,rfl,Below.refl _ _⟩
 case round=>
  obtain⟨k,hk,rfl,hbr⟩:=hrel;by_cases hlt:k<64
  . have hck:=HC.out k (by rw[HO.out];exact hlt)
    have hxk:=HX.out k hlt;have hbd:=HBB.out k;obtain⟨x,hx⟩:∃ x,x=(O.getD k (0,0)).1:=⟨_,rfl⟩;obtain⟨y,hy⟩:∃ y,y=(O.getD k (0,0)).2:=⟨_,rfl⟩;rw[<- hx,<- hy] at hck hbd;rw[<- hx] at hxk;have c1:=(hbr.cell (p:=⟨b,off+k*2,none⟩) hb).trans hck.1;have c2:=(hbr.cell (p:=⟨b,off+k*2+1,none⟩) hb).trans hck.2;have ek:(k:Int)<64:=by omega
    have eg:(g:Int)<12:=by omega
    have HB2:=hid (hbr.trans ((Zaa wr (.cells #[.int .u16 x,.int .u16 y] 109)).mono hbr.size));obtain⟨F,hF⟩:∃ F,F=fixB (64*(g:Int)+k):=⟨_,rfl⟩;rw[<- hF] at hxk;have eF:fixB ((g:Int)*64+k)=F:=by rw[hF,Int.mul_comm]
    have K1:=hid (Zkg ((g:Int)*64+k) (by omega) F eF);have hxb:(x==65535)=F:=hxk;clear hx hy hck hF eF hxk;go_wp2;cases F
    all_goals
     go_quiet ((go_at_call 146;exact Zai (K1.out _)))
     go_wp2;go_roundw
     case rel=>exact⟨k+1,by omega,by go_num,Zab HB2.out _⟩
     case measure=>simp[intOf];omega
  . go_wp2
    go_ret;exact⟨rfl,hbr⟩
def XSt.cur(X:XSt):List (List Int):=if X.wi=true then X.call else X.is
theorem XOk.curLen{X:XSt}(h:XOk X):X.cur.length=X.is.length:=by
 unfold XSt.cur;split
 . next hw=>exact h.call hw
 . rfl
theorem pageS_bd{O:List (Int × Int)}(hO:O.length=64)(hB:OwB O)(ha:allO O=true):pagesB (Zcs O)/\ownK (Zcs O) 64=O:=by
 have e:=ownK_page hB hO;refine⟨⟨Zhy hO,?_⟩,e⟩;rw[e];unfold allO at ha;rw[hO] at ha
 simpa using ha
theorem spRead_of{w:World}{P:Nat->Prop}{d p:Value}{X:XSt}{O:List (Int × Int)}{k g:Nat}(h:SInv w P d p X)(hH:Has X.cur O k)(hO:OOk O k)(hg:g<k):
 Calls Tryz.prog 55 #[p,.int .i64 g] w fun e w'=>∃ v,e=.returned (.tuple #[v,.int .i64 0])/\OwR w' w.heap.size v (grO O g)/\Below w.heap.size w w':=by
 have hlen:X.is.length=64*k:=by
  obtain⟨_,_,_,_,_,_,_,_,_,_,_,_,_,hpl,_⟩:=h;rw[<- hpl.ok.curLen];exact hH.len
 have hlt:∀ k,P k->k<w.heap.size:=by
  obtain⟨_,_,_,_,_,_,_,_,_,_,_,_,_,_,_,hl⟩:=h;exact hl
 have h12:=hO.k12;have hin:=Zjl hg;obtain⟨gB,gA,gX⟩:=hO.gr hg;have gL:=Zdu hO.len hg;obtain⟨Og,hOg⟩:∃ Og,Og=grO O g:=⟨_,rfl⟩;obtain⟨D,hD⟩:∃ D,D=Zhl (g:Int) (Zbe Og 64):=⟨_,rfl⟩;obtain⟨E,hE⟩:∃ E,E=Zcs Og:=⟨_,rfl⟩;have eD:X.cur.getD (dscN g) []=D:=by rw[hH.ds g hg,hD,hOg]
 have eE:X.cur.getD (dscN g+1) []=E:=by rw[hH.ow g hg,hE,hOg]
 rw[<- hOg] at gB gA gX gL |-
 obtain⟨pB,pE⟩:=pageS_bd gL gB gA;rw[<- hE] at pB pE;have KD:Hid (∀ W:World,Below w.heap.size w W->Calls Tryz.prog 61 #[p,.int .i64 (dscN g:Nat)] W fun e w'=>∃ v,e=.returned (.tuple #[v,.int .i64 0])/\BSl w' v D/\Below W.heap.size W w'):=hid fun W hb=>(sGet_own (h.keep hb.size fun i hi=>hb.block i (hlt i hi)) (n:=dscN g) (by omega)).mono fun e w' ⟨v,l,a,b,c,f⟩=>⟨v,a,by rw[<- eD];exact(c hin.2.1) ▸ b,f⟩
 have KE:Hid (∀ W:World,Below w.heap.size w W->Calls Tryz.prog 61 #[p,.int .i64 (((dscN g:Nat):Int)+1)] W fun e w'=>∃ v,e=.returned (.tuple #[v,.int .i64 0])/\BSl w' v E/\Below W.heap.size W w'):=hid fun W hb=>(sGet_own (h.keep hb.size fun i hi=>hb.block i (hlt i hi)) (n:=dscN g+1) (by omega)).mono fun e w' ⟨v,l,a,b,c,f⟩=>⟨v,a,by rw[<- eE];exact(c hin.2.2) ▸ b,f⟩
 have KO:Hid (∀ (W:World) (v:Value),BSl W v E->Calls Tryz.prog 96 #[v] W fun e w'=>∃ u,e=.returned (.tuple #[u,.int .i64 0])/\OwR w' W.heap.size u Og/\Below W.heap.size W w'):=hid fun W v hb=>(grOwn_any hb).mono fun e w' ho=>by
  rcases ho with⟨_,u,a,b,c⟩| ⟨hn,_⟩
  . exact⟨u,a,pE ▸ b,c⟩
  . exact absurd pB hn
 have KL:=hid (fun(W:World) (v:Value) (hs:OwSl W v Og)=>spLaid_is hs gL (show g<12 by omega) gX);have KC:Hid (∀ (W:World) (v:Value),OwSl W v Og->Calls Tryz.prog 98 #[.int .i64 g,v] W fun e w'=>∃ u,e=.returned (.tuple #[u,.int .i64 0])/\OB w' W.heap.size u D/\Below W.heap.size W w'):=hid fun W v hs=>(spDesc_is hs (g:Int) (by omega) (by omega) gA).mono fun e w' ho=>by rw[hD];exact ho
 have KEq:Hid (∀ (W:World) (u v:Value),BSl W u D->BSl W v D->Calls Tryz.prog 99 #[u,v] W fun e w'=>e=.returned (.bool true)/\W=w'):=hid fun W u v hu hv=>(Zdm hu hv).mono fun e w' ho=>by rw[decide_eq_true rfl] at ho;exact ho
 have KGd:=hid (fun(W:World)=>Zkh (g:Int) W);have KGo:=hid (fun(W:World)=>Zjh (g:Int) W);rw[dscN_I (show g<12 by omega)] at KGd;rw[ownN_I (show g<12 by omega)] at KGo;clear h hH hO eD eE hD hE hOg gB gA gX gL pB pE hin hlt hlen h12 hg;go_enter Tryz.func55,Tryz.ntmps55
 go_wp2_with (first
  |(go_at_call 94;refine(KGd.out _).mono ?_;rintro e w' ⟨rfl,rfl⟩)
  |(go_at_call 95;refine(KGo.out _).mono ?_;rintro e w' ⟨rfl,rfl⟩)
  |(go_at_call 61;(with_reducible refine(KD.out _ (Below.refl _ _)).mono ?_);rintro e w1 ⟨vd,rfl,hvd,hb1⟩)
  |(go_at_call 61;(with_reducible refine(KE.out _ hb1).mono ?_);rintro e w2 ⟨vp,rfl,hvp,hb2⟩;have hvd2:=hvd.below hb2;have hb02:=hb1.trans (hb2.mono hb1.size))
  |(go_at_call 96;refine(KO.out _ _ hvp).mono ?_;rintro e w3 ⟨u,rfl,hu,hb3⟩;have hvd3:=hvd2.below hb3;have hb03:=hb02.trans (hb3.mono hb02.size))
  |(go_at_call 97;refine(KL.out _ _ hu.sl).mono ?_;rintro e w4 ⟨rfl,hb4⟩;have hvd4:=hvd3.below hb4;have hu4:=hu.below hb4;have hb04:=hb03.trans (hb4.mono hb03.size))
  |(go_at_call 98;refine(KC.out _ _ hu4.sl).mono ?_;rintro e w5 ⟨vw,rfl,hvw,hb5⟩;have hvd5:=hvd4.below hb5;have hu5:=hu4.below hb5;have hb05:=hb04.trans (hb5.mono hb04.size))
  |(go_at_call 99;refine(KEq.out _ _ _ hvd5 hvw.bsl).mono ?_;rintro e w6 ⟨rfl,rfl⟩))
 go_ret2;exact⟨u,rfl,hu5.more hb02.size,hb05⟩
def preN(f:Nat->Bool)(c L:Nat):List Bool:=(List.range L).map fun i=>if i<c then f i else false
theorem preN_length(f:Nat->Bool)(c L:Nat):(preN f c L).length=L:=by simp[preN]
theorem preN_set(f:Nat->Bool)(c L:Nat):(preN f c L).set c (f c)=preN f (c+1) L:=by
 apply List.ext_getElem (by simp[preN]);intro i h1 h2;simp only[preN,List.getElem_set,List.getElem_map,List.getElem_range];by_cases e:c=i
 . subst e;rw[if_pos rfl,if_pos (by omega)]
 . rw[if_neg e]
   by_cases h:i<c
   . rw[if_pos h,if_pos (by omega)]
   . rw[if_neg h,if_neg (by omega)]
theorem preN_zero(f:Nat->Bool)(L:Nat):preN f 0 L=List.replicate L false:=by
 rw[List.eq_replicate_iff];refine⟨preN_length f 0 L,fun b hb=>?_⟩;obtain⟨i,_,rfl⟩:=List.mem_map.1 hb;rw[if_neg (by omega)]
theorem preN_full(O:List (Int × Int))(L:Nat):preN (Zef O) L L=Zbe O L:=by
 unfold preN Zbe;apply List.map_congr_left;intro i hi;rw[if_pos (List.mem_range.1 hi)]
section
variable {w:World}{P:Nat->Prop}{d p:Value}{X:XSt}{O:List (Int × Int)}{k:Nat}
theorem SInv.lt(h:SInv w P d p X):∀ k,P k->k<w.heap.size:=by
 obtain⟨_,_,_,_,_,_,_,_,_,_,_,_,_,_,_,hl⟩:=h;exact hl
theorem SInv.low(h:SInv w P d p X){W:World}(hb:Below w.heap.size w W):SInv W P d p X:=h.keep hb.size fun i hi=>hb.block i (h.lt i hi)
theorem spRead_at{g:Nat}(h:SInv w P d p X)(hH:Has X.cur O k)(hO:OOk O k)(hg:g<k):
 Calls Tryz.prog 55 #[p,.int .i64 g] w fun e w'=>∃ b cap,e=.returned (.tuple #[.slice (some ⟨b,0,none⟩) 64 cap,.int .i64 0])/\w.heap.size<=b/\b<w'.heap.size/\OwR w' w.heap.size (.slice (some ⟨b,0,none⟩) 64 cap) (grO O g)/\
  (∀ j,j<64->w'.cell? ⟨b,j*2,none⟩=some (.int .u16 ((grO O g).getD j (0,0)).1)/\w'.cell? ⟨b,j*2+1,none⟩=some (.int .u16 ((grO O g).getD j (0,0)).2))/\Below w.heap.size w w':=by
 refine(spRead_of h hH hO hg).mono fun e w' ⟨v,he,hv,hb⟩=>?_
 have hl:=Zdu hO.len hg;obtain⟨b,cap,rfl⟩:=ow_len hv 64 hl (by decide);obtain⟨b',off,cap',e1,hbl,hc⟩:=hv.sl.at (by omega)
 injection e1 with e1 _ _
 injection e1 with e1
 injection e1 with e1 e2
 subst e1;subst e2;exact⟨b,cap,he,(World.ownsRow.lt hv.2 b rfl).1,hbl,hv,fun j hj=>by have:=hc j (by omega);rwa [Nat.zero_add] at this,hb⟩
theorem spUB_yes(h:SInv w P d p X)(hH:Has X.cur O k)(hO:OOk O k){m:Nat}(hm1:1<=m)(hm:m<=k):
 Calls Tryz.prog 29 #[p,.int .i64 (64*(m:Int))] w fun e w'=>∃ q r,e=.returned (.tuple #[.pointer (some ⟨q,0,none⟩),.int .i64 0])/\BRow w' q r (Zbe O (64*m))/\Below w.heap.size w w':=by
 have h12:=hO.k12;have KF:=hid (fun(W:World)=>Zew m hm1 (by omega) W);have KG:=hid (fun(W:World)=>Zji m hm1 (by omega) W);have KN:=hid (bNew_len (64*m) (by omega) w);rw[show((64*m:Nat):Int)=64*(m:Int) by omega] at KN
 have KR:Hid (∀ (W:World),Below w.heap.size w W->∀ g,g<m->Calls Tryz.prog 55 #[p,.int .i64 g] W fun e w'=>∃ b cap,e=.returned (.tuple #[.slice (some ⟨b,0,none⟩) 64 cap,.int .i64 0])/\W.heap.size<=b/\b<w'.heap.size/\
  (∀ j,j<64->w'.cell? ⟨b,j*2,none⟩=some (.int .u16 ((grO O g).getD j (0,0)).1)/\w'.cell? ⟨b,j*2+1,none⟩=some (.int .u16 ((grO O g).getD j (0,0)).2))/\Below W.heap.size W w'):=hid fun W hb g hg=>(spRead_at (h.low hb) hH hO (show g<k by omega)).mono fun e w' ⟨b,cap,h1,h2,h3,_,h4,h5⟩=>⟨b,cap,h1,h2,h3,h4,h5⟩
 have HU:Hid (∀ g j x y,j<64->g<m->x=((grO O g).getD j (0,0)).1->y=((grO O g).getD j (0,0)).2->freeP x y=!Zef O (64*g+j)):=hid fun g j x y hj hg ex ey=>by
  have e1:=Zik O g hj;have hf:=hO.frm (64*g+j) (by omega);rw[e1] at ex ey;unfold frmJ at hf;rw[<- ex,<- ey] at hf;unfold Zef;rw[<- ex];by_cases hx:x=0
  . rw[hx] at hf |-
    rw[frm_zero hf];rfl
  . have hxb:(x==0)=false:=by simpa using hx
    rw[freeP,hxb,decide_eq_true hx];rfl
 have hm12:m<=12:=by omega
 clear h hH hO h12 hm;go_enter Tryz.func29,Tryz.ntmps29
 go_wp2_with (first
  |(go_at_call 52;refine(KF.out _).mono ?_;rintro e w' ⟨rfl,rfl⟩)
  |(go_at_call 54;refine(KG.out _).mono ?_;rintro e w' ⟨rfl,rfl⟩)
  |(go_at_call 53;refine KN.out.mono ?_;rintro e w1 ⟨rfl,hrow1,hb1⟩))
 obtain⟨r,hr⟩:∃ r,r=w.heap.size:=⟨_,rfl⟩;rw[<- hr] at hrow1 |-
 obtain⟨q,hq⟩:∃ q,q=r+1:=⟨_,rfl⟩;rw[<- hq] at hrow1 |-
 have hrq:r<q:=by omega
 have hwr:w.heap.size<=r:=by omega
 obtain⟨L,hL⟩:∃ L,L=64*m:=⟨_,rfl⟩;rw[<- hL] at hrow1;rw[<- preN_zero (Zef O)] at hrow1;have HL0:=hid hL;have HR1:Hid (BRow w1 q r (preN (Zef O) (64*0) L)):=hid hrow1;have hb1':Below w.heap.size w w1:=hb1;clear hr hq hrow1 hL hb1;go_loopw [19] (fun i wr=>∃ g:Nat,g<=m/\i=.int .i64 g/\Hid (BRow wr q r (preN (Zef O) (64*g) L))/\Below w.heap.size w wr) (fun i _=>m-(intOf i).toNat)
 case atStart=>exact⟨0,by omega,rfl,HR1,hb1'⟩
 case round=>
  obtain⟨g,hg,rfl,HROW,hbr⟩:=hrel;clear HR1 hb1';by_cases hlt:g<m
  . have eg:(g:Int)<12:=by omega
    have egm:(g:Int)<(m:Int):=by omega
    have KR1:=hid (KR.out wr hbr g hlt);have hrl:=HROW.out.lt;have HRLT:=hid hrl;clear hrl;go_wp2_with (go_at_call 55;refine KR1.out.mono ?_;rintro e w2 ⟨b,cap,rfl,hbb,hbl,hc,hb2⟩)
    have hrow2:=HROW.out.below hb2 HRLT.out.1 HRLT.out.2;have hb02:=hbr.trans (hb2.mono hbr.size);have hbq:q<b:=by have:=HRLT.out.1;omega
    have hbr':r<b:=by omega
    have HC:=hid hc;have HR2:Hid (BRow w2 q r (preN (Zef O) (64*g+0) L)):=hid hrow2;clear hrow2 hc hb2 hbr HROW HRLT KR1;go_loopw [33] (fun i wr=>∃ j:Nat,j<=64/\i=.int .i64 j/\Hid (BRow wr q r (preN (Zef O) (64*g+j) L))/\Hid (wr.heap[b]? =w2.heap[b]?)/\Below w.heap.size w wr) (fun i _=>64-(intOf i).toNat)
    case atStart=>exact⟨0,by omega,rfl,HR2,hid rfl,hb02⟩
    case round=>
     obtain⟨j,hj,rfl,HROW,HE,hbi⟩:=hrel;clear HR2 hb02;by_cases hjt:j<64
     . have hck:=HC.out j hjt
       have hfr:=HU.out g j _ _ hjt hlt rfl rfl;obtain⟨x,hx⟩:∃ x,x=((grO O g).getD j (0,0)).1:=⟨_,rfl⟩;obtain⟨y,hy⟩:∃ y,y=((grO O g).getD j (0,0)).2:=⟨_,rfl⟩;rw[<- hx,<- hy] at hck;rw[<- hx,<- hy] at hfr;have c1:=(World.cell?_of_block (a:=⟨b,j*2,none⟩) (w:=w2) HE.out).trans hck.1;have c2:=(World.cell?_of_block (a:=⟨b,j*2+1,none⟩) (w:=w2) HE.out).trans hck.2;have ej:(j:Int)<64:=by omega
       have hrl:=HROW.out.lt;obtain⟨U,hU⟩:∃ U,U=Zef O (64*g+j):=⟨_,rfl⟩;rw[<- hU] at hfr;have hps:=preN_set (Zef O) (64*g+j) L;rw[<- hU] at hps;have HPS:=hid hps;have hb3:=Zaa wr (.cells #[.int .u16 x,.int .u16 y] 109);have KFr:=hid (Zhv x y (!U) hfr (wr.alloc (.cells #[.int .u16 x,.int .u16 y] 109)));have KS:Hid (∀ (W:World),BRow W q r (preN (Zef O) (64*g+j) L)->Calls Tryz.prog 56 #[.pointer (some ⟨q,0,none⟩),.int .i64 ((g:Int)*64+j),.bool U] W fun e w'=>e=.returned (.int .i64 0)/\BRow w' q r (preN (Zef O) (64*g+(j+1)) L)/\Wrote W w' r):=hid fun W hr=>by
        have:=bSet_nat hr (64*g+j) (by rw[preN_length,HL0.out];omega) U;rw[HPS.out] at this;rw[show((64*g+j:Nat):Int)=(g:Int)*64+j by omega] at this;exact this
       have HROW3:=hid (HROW.out.below hb3 hrl.1 hrl.2);clear hx hy hck hfr hU hps HPS;cases U
       all_goals
        go_wp2_with (first
         |(go_at_call 57;refine KFr.out.mono ?_;rintro e w4 ⟨rfl,hb4⟩;have hrow4:=HROW3.out.below hb4 (by have:=hrl.1;simp;omega) (by have:=hrl.2;simp;omega);have hb34:=hb3.trans (hb4.mono hb3.size))
         |(go_at_call 56;refine(KS.out _ hrow4).mono ?_;rintro e w5 ⟨rfl,hrow5,hw5⟩))
        go_roundw
        case rel=>
         refine⟨j+1,by omega,by go_num,hrow5,?_,(hbi.trans (hb34.mono hbi.size)).trans (hw5.below (by omega))⟩;have hbw:b<wr.heap.size:=by
          have:=(Array.getElem?_eq_some_iff.1 (HE.out.trans (Array.getElem?_eq_getElem hbl))).1;exact this
         exact(hw5.2.2.2.2 _ (by omega)).trans ((hb34.block b hbw).trans HE.out)
        case measure=>simp[intOf];omega
     . obtain rfl:j=64:=by omega
       have HROW':Hid (BRow wr q r (preN (Zef O) (64*(g+1)) L)):=hid (by rw[show 64*(g+1)=64*g+64 by omega];exact HROW.out);go_wp2;go_roundw
       case rel=>exact⟨g+1,by omega,by go_num,HROW',hbi⟩
       case measure=>simp[intOf];omega
  . obtain rfl:g=m:=by omega
    have hrow:=HROW.out;rw[<- HL0.out,preN_full] at hrow;go_wp2;go_ret2;exact⟨q,r,rfl,by rw[<- HL0.out];exact hrow,hbr⟩
end
end Go.Proofs.YtedabomlfcghoaaGreat
namespace Go.Proofs.YtedabomlfcghoaaGreat
set_option maxRecDepth 100000
open Go.RowKit
theorem sWithin5_any(n lo hi:Int)(w:World):Calls Tryz.prog 212 #[.int .i64 n,.int .i64 lo,.int .i64 hi] w fun e w'=>e=.returned (.bool (decide (lo<=n/\n<=hi)))/\w=w':=by
 by_cases h1:lo<=n
 . by_cases h2:n<=hi
   . rw[decide_eq_true ⟨h1,h2⟩]
     go_enter Tryz.func212,Tryz.ntmps212;go_wp2;go_ret;exact⟨rfl,rfl⟩
   . rw[decide_eq_false (fun h=>h2 h.2)]
     go_enter Tryz.func212,Tryz.ntmps212;go_wp2;go_ret;exact⟨rfl,rfl⟩
 . rw[decide_eq_false (fun h=>h1 h.1)]
   go_enter Tryz.func212,Tryz.ntmps212;go_wp2;go_ret;exact⟨rfl,rfl⟩
theorem Zbi(n lo hi:Int)(B:Bool)(h:decide (lo<=n/\n<=hi)=B)(w:World):Calls Tryz.prog 212 #[.int .i64 n,.int .i64 lo,.int .i64 hi] w fun e w'=>e=.returned (.bool B)/\w=w':=by
 rw[<- h];exact sWithin5_any n lo hi w
theorem Zgl(b:Int)(hm:b<=9223372036854775807)(B:Bool)(h:frmB b=B)(w:World):Calls Tryz.prog 52 #[.int .i64 b] w fun e w'=>e=.returned (.bool B)/\w=w':=by
 rw[<- h];exact Zex b hm w
theorem Zga(b:Int)(hm:b<=9223372036854775807)(B:Bool)(h:frmB b=B)(w:World):Calls Tryz.prog 50 #[.int .i64 b] w fun e w'=>e=.returned (.bool B)/\w=w':=by
 rw[<- h];exact Zjc b hm w
theorem Zbr{b:Int}(h:frmB b=true):0<=b/\b<=768/\grsI b=b / 64:=by
 have:=of_decide_eq_true h;exact⟨by omega,by omega,by unfold grsI;rw[if_pos h]⟩
theorem Zln(b:Int)(h:frmB b=true)(G:Int)(hG:G=b / 64)(w:World):Calls Tryz.prog 54 #[.int .i64 b] w fun e w'=>e=.returned (.int .i64 G)/\w=w':=by
 have:=gGroups_any b (by have:=Zbr h;omega) w;rw[(Zbr h).2.2] at this;rw[hG];exact this
def st1g(G1 G2 b tg cu io ba:Int):Bool:=frmB tg && (decide (b<tg) && (decide (G1<=cu/\cu<=G2) && ((io==0) && (ba==0))))
def st1r(b tg cu io ba:Int):Bool:=frmB tg && (decide (b<tg) && (decide (b / 64<=cu) && (decide (cu<=tg / 64) && ((io==0) && (ba==0)))))
def st3r(b tg cu io ba:Int):Bool:=(tg==0) && (decide (1<=io) && (decide (io<=47) && (decide (0<=ba) && (decide (ba<=b) && (decide (0<=cu) && (decide (cu<=b)))))))
theorem st1r_eq(b tg cu io ba:Int):st1r b tg cu io ba=st1 b tg cu io ba:=by simp[st1r,st1,Bool.decide_and,Bool.and_assoc]
theorem st3r_eq(b tg cu io ba:Int):st3r b tg cu io ba=st3 b tg cu io ba:=by simp[st3r,st3,Bool.decide_and,Bool.and_assoc]
set_option maxHeartbeats 2000000 in
theorem sState0(b tg cu io ba t0 t1 t2 t3 t4 t5:Int)(w:World)  :Calls Tryz.prog 203 #[.agg #[.int .i64 b,.int .i64 0,.int .i64 tg,.int .i64 cu,.int .i64 io,.int .i64 ba,.int .i64 t0,.int .i64 t1,.int .i64 t2,.int .i64 t3,.int .i64 t4,.int .i64 t5]] w fun e w'=>e=.returned (.bool (st0 tg cu io ba))/\Below w.heap.size w w':=by
 have HR:st0 tg cu io ba=((tg==0) && ((cu==0) && ((io==0) && ((ba==0))))):=rfl;rcases h0:(tg==0) with _|_
 . replace HR:st0 tg cu io ba=false:=by rw[HR,h0] <;> rfl
   rw[HR];clear HR;go_enter Tryz.func203,Tryz.ntmps203;go_wp2;go_ret;exact⟨rfl,Zaa _ _⟩
 . rw[h0,Bool.true_and] at HR
   rcases h1:(cu==0) with _|_
   . replace HR:st0 tg cu io ba=false:=by rw[HR,h1] <;> rfl
     rw[HR];clear HR;go_enter Tryz.func203,Tryz.ntmps203;go_wp2;go_ret;exact⟨rfl,Zaa _ _⟩
   . rw[h1,Bool.true_and] at HR
     rcases h2:(io==0) with _|_
     . replace HR:st0 tg cu io ba=false:=by rw[HR,h2] <;> rfl
       rw[HR];clear HR;go_enter Tryz.func203,Tryz.ntmps203;go_wp2;go_ret;exact⟨rfl,Zaa _ _⟩
     . rw[h2,Bool.true_and] at HR
       rcases h3:(ba==0) with _|_
       . replace HR:st0 tg cu io ba=false:=by rw[HR,h3] <;> rfl
         rw[HR];clear HR;go_enter Tryz.func203,Tryz.ntmps203;go_wp2;go_ret;exact⟨rfl,Zaa _ _⟩
       . rw[h3] at HR
         rw[HR];clear HR;go_enter Tryz.func203,Tryz.ntmps203;go_wp2;go_ret;exact⟨rfl,Zaa _ _⟩
set_option maxHeartbeats 2000000 in
theorem rState0(b tg cu io ba t0 t1 t2 t3 t4 t5:Int)(w:World)  :Calls Tryz.prog 170 #[.agg #[.int .i64 b,.int .i64 0,.int .i64 tg,.int .i64 cu,.int .i64 io,.int .i64 ba,.int .i64 t0,.int .i64 t1,.int .i64 t2,.int .i64 t3,.int .i64 t4,.int .i64 t5]] w fun e w'=>e=.returned (.bool (st0 tg cu io ba))/\Below w.heap.size w w':=by
 have HR:st0 tg cu io ba=((tg==0) && ((cu==0) && ((io==0) && ((ba==0))))):=rfl;rcases h0:(tg==0) with _|_
 . replace HR:st0 tg cu io ba=false:=by rw[HR,h0] <;> rfl
   rw[HR];clear HR;go_enter Tryz.func170,Tryz.ntmps170;go_wp2;go_ret;exact⟨rfl,Zaa _ _⟩
 . rw[h0,Bool.true_and] at HR
   rcases h1:(cu==0) with _|_
   . replace HR:st0 tg cu io ba=false:=by rw[HR,h1] <;> rfl
     rw[HR];clear HR;go_enter Tryz.func170,Tryz.ntmps170;go_wp2;go_ret;exact⟨rfl,Zaa _ _⟩
   . rw[h1,Bool.true_and] at HR
     rcases h2:(io==0) with _|_
     . replace HR:st0 tg cu io ba=false:=by rw[HR,h2] <;> rfl
       rw[HR];clear HR;go_enter Tryz.func170,Tryz.ntmps170;go_wp2;go_ret;exact⟨rfl,Zaa _ _⟩
     . rw[h2,Bool.true_and] at HR
       rcases h3:(ba==0) with _|_
       . replace HR:st0 tg cu io ba=false:=by rw[HR,h3] <;> rfl
         rw[HR];clear HR;go_enter Tryz.func170,Tryz.ntmps170;go_wp2;go_ret;exact⟨rfl,Zaa _ _⟩
       . rw[h3] at HR
         rw[HR];clear HR;go_enter Tryz.func170,Tryz.ntmps170;go_wp2;go_ret;exact⟨rfl,Zaa _ _⟩
set_option maxHeartbeats 2000000 in
theorem sState1g(b tg cu io ba t0 t1 t2 t3 t4 t5:Int)(w:World)(hb:frmB b=true)(hm:tg<=9223372036854775807)(G1 G2:Int)(hG1:G1=b / 64)(hG2:G2=tg / 64):Calls Tryz.prog 203 #[.agg #[.int .i64 b,.int .i64 1,.int .i64 tg,.int .i64 cu,.int .i64 io,.int .i64 ba,.int .i64 t0,.int .i64 t1,.int .i64 t2,.int .i64 t3,.int .i64 t4,.int .i64 t5]] w fun e w'=>e=.returned (.bool (st1g G1 G2 b tg cu io ba))/\Below w.heap.size w w':=by
 have HR:st1g G1 G2 b tg cu io ba=((frmB tg) && ((decide (b<tg)) && ((decide (G1<=cu/\cu<=G2)) && ((io==0) && ((ba==0)))))):=rfl;rcases h0:(frmB tg) with _|_
 . replace HR:st1g G1 G2 b tg cu io ba=false:=by rw[HR,h0] <;> rfl
   rw[HR];clear HR;have K0:=hid (Zgl tg hm false h0);clear h0;clear hb hm hG1 hG2;go_enter Tryz.func203,Tryz.ntmps203;go_wp2;have hB:=Zaa w (.cells #[.int .i64 b,.int .i64 1,.int .i64 tg,.int .i64 cu,.int .i64 io,.int .i64 ba,.int .i64 t0,.int .i64 t1,.int .i64 t2,.int .i64 t3,.int .i64 t4,.int .i64 t5] 118);have hh:=heap_alloc_new w (.cells #[.int .i64 b,.int .i64 1,.int .i64 tg,.int .i64 cu,.int .i64 io,.int .i64 ba,.int .i64 t0,.int .i64 t1,.int .i64 t2,.int .i64 t3,.int .i64 t4,.int .i64 t5] 118);generalize w.alloc (.cells #[.int .i64 b,.int .i64 1,.int .i64 tg,.int .i64 cu,.int .i64 io,.int .i64 ba,.int .i64 t0,.int .i64 t1,.int .i64 t2,.int .i64 t3,.int .i64 t4,.int .i64 t5] 118)=W1 at hB hh |-
   have c0:W1.cell? ⟨w.heap.size,0,none⟩=some (.int .i64 b):=by rw[cell_of_row _ _ _ _ _ _ hh];rfl
   have c2:W1.cell? ⟨w.heap.size,2,none⟩=some (.int .i64 tg):=by rw[cell_of_row _ _ _ _ _ _ hh];rfl
   have c3:W1.cell? ⟨w.heap.size,3,none⟩=some (.int .i64 cu):=by rw[cell_of_row _ _ _ _ _ _ hh];rfl
   have c4:W1.cell? ⟨w.heap.size,4,none⟩=some (.int .i64 io):=by rw[cell_of_row _ _ _ _ _ _ hh];rfl
   have c5:W1.cell? ⟨w.heap.size,5,none⟩=some (.int .i64 ba):=by rw[cell_of_row _ _ _ _ _ _ hh];rfl
   clear hh;go_quiet (first|(go_at_call 52;with_reducible refine Zai (K0.out _)))
   go_wp2;go_ret;exact⟨rfl,Zab hB _⟩
 . rw[h0,Bool.true_and] at HR
   have hK2:=hid (Zln tg h0 G2 hG2);have K0:=hid (Zgl tg hm true h0);clear h0;rcases h1:(decide (b<tg)) with _|_
   . replace HR:st1g G1 G2 b tg cu io ba=false:=by rw[HR,h1] <;> rfl
     rw[HR];clear HR;have g1:¬ b<tg:=of_decide_eq_false h1;clear hb hm hG1 hG2;go_enter Tryz.func203,Tryz.ntmps203;go_wp2;have hB:=Zaa w (.cells #[.int .i64 b,.int .i64 1,.int .i64 tg,.int .i64 cu,.int .i64 io,.int .i64 ba,.int .i64 t0,.int .i64 t1,.int .i64 t2,.int .i64 t3,.int .i64 t4,.int .i64 t5] 118);have hh:=heap_alloc_new w (.cells #[.int .i64 b,.int .i64 1,.int .i64 tg,.int .i64 cu,.int .i64 io,.int .i64 ba,.int .i64 t0,.int .i64 t1,.int .i64 t2,.int .i64 t3,.int .i64 t4,.int .i64 t5] 118);generalize w.alloc (.cells #[.int .i64 b,.int .i64 1,.int .i64 tg,.int .i64 cu,.int .i64 io,.int .i64 ba,.int .i64 t0,.int .i64 t1,.int .i64 t2,.int .i64 t3,.int .i64 t4,.int .i64 t5] 118)=W1 at hB hh |-
     have c0:W1.cell? ⟨w.heap.size,0,none⟩=some (.int .i64 b):=by rw[cell_of_row _ _ _ _ _ _ hh];rfl
     have c2:W1.cell? ⟨w.heap.size,2,none⟩=some (.int .i64 tg):=by rw[cell_of_row _ _ _ _ _ _ hh];rfl
     have c3:W1.cell? ⟨w.heap.size,3,none⟩=some (.int .i64 cu):=by rw[cell_of_row _ _ _ _ _ _ hh];rfl
     have c4:W1.cell? ⟨w.heap.size,4,none⟩=some (.int .i64 io):=by rw[cell_of_row _ _ _ _ _ _ hh];rfl
     have c5:W1.cell? ⟨w.heap.size,5,none⟩=some (.int .i64 ba):=by rw[cell_of_row _ _ _ _ _ _ hh];rfl
     clear hh;go_quiet (first|(go_at_call 52;with_reducible refine Zai (K0.out _)))
     go_wp2;go_ret;exact⟨rfl,Zab hB _⟩
   . rw[h1,Bool.true_and] at HR
     have g1:b<tg:=of_decide_eq_true h1;rcases h2:(decide (G1<=cu/\cu<=G2)) with _|_
     . replace HR:st1g G1 G2 b tg cu io ba=false:=by rw[HR,h2] <;> rfl
       rw[HR];clear HR;have K1:=hid (Zln b hb G1 hG1);have K2:=hid (hK2.out);have K3:=hid (Zbi cu (G1) (G2) false h2);clear h2;clear hb hm hG1 hG2;go_enter Tryz.func203,Tryz.ntmps203;go_wp2;have hB:=Zaa w (.cells #[.int .i64 b,.int .i64 1,.int .i64 tg,.int .i64 cu,.int .i64 io,.int .i64 ba,.int .i64 t0,.int .i64 t1,.int .i64 t2,.int .i64 t3,.int .i64 t4,.int .i64 t5] 118);have hh:=heap_alloc_new w (.cells #[.int .i64 b,.int .i64 1,.int .i64 tg,.int .i64 cu,.int .i64 io,.int .i64 ba,.int .i64 t0,.int .i64 t1,.int .i64 t2,.int .i64 t3,.int .i64 t4,.int .i64 t5] 118);generalize w.alloc (.cells #[.int .i64 b,.int .i64 1,.int .i64 tg,.int .i64 cu,.int .i64 io,.int .i64 ba,.int .i64 t0,.int .i64 t1,.int .i64 t2,.int .i64 t3,.int .i64 t4,.int .i64 t5] 118)=W1 at hB hh |-
       have c0:W1.cell? ⟨w.heap.size,0,none⟩=some (.int .i64 b):=by rw[cell_of_row _ _ _ _ _ _ hh];rfl
       have c2:W1.cell? ⟨w.heap.size,2,none⟩=some (.int .i64 tg):=by rw[cell_of_row _ _ _ _ _ _ hh];rfl
       have c3:W1.cell? ⟨w.heap.size,3,none⟩=some (.int .i64 cu):=by rw[cell_of_row _ _ _ _ _ _ hh];rfl
       have c4:W1.cell? ⟨w.heap.size,4,none⟩=some (.int .i64 io):=by rw[cell_of_row _ _ _ _ _ _ hh];rfl
       have c5:W1.cell? ⟨w.heap.size,5,none⟩=some (.int .i64 ba):=by rw[cell_of_row _ _ _ _ _ _ hh];rfl
       clear hh;go_quiet (first|(go_at_call 52;with_reducible refine Zai (K0.out _))|(go_at_call 54;with_reducible refine Zai (K1.out _))|(go_at_call 54;with_reducible refine Zai (K2.out _))|(go_at_call 212;with_reducible refine Zai (K3.out _)))
       go_wp2;go_ret;exact⟨rfl,Zab hB _⟩
     . rw[h2,Bool.true_and] at HR
       have K1:=hid (Zln b hb G1 hG1);have K2:=hid (hK2.out);have K3:=hid (Zbi cu (G1) (G2) true h2);clear h2;rcases h3:(io==0) with _|_
       . replace HR:st1g G1 G2 b tg cu io ba=false:=by rw[HR,h3] <;> rfl
         rw[HR];clear HR;clear hb hm hG1 hG2;go_enter Tryz.func203,Tryz.ntmps203;go_wp2;have hB:=Zaa w (.cells #[.int .i64 b,.int .i64 1,.int .i64 tg,.int .i64 cu,.int .i64 io,.int .i64 ba,.int .i64 t0,.int .i64 t1,.int .i64 t2,.int .i64 t3,.int .i64 t4,.int .i64 t5] 118);have hh:=heap_alloc_new w (.cells #[.int .i64 b,.int .i64 1,.int .i64 tg,.int .i64 cu,.int .i64 io,.int .i64 ba,.int .i64 t0,.int .i64 t1,.int .i64 t2,.int .i64 t3,.int .i64 t4,.int .i64 t5] 118);generalize w.alloc (.cells #[.int .i64 b,.int .i64 1,.int .i64 tg,.int .i64 cu,.int .i64 io,.int .i64 ba,.int .i64 t0,.int .i64 t1,.int .i64 t2,.int .i64 t3,.int .i64 t4,.int .i64 t5] 118)=W1 at hB hh |-
         have c0:W1.cell? ⟨w.heap.size,0,none⟩=some (.int .i64 b):=by rw[cell_of_row _ _ _ _ _ _ hh];rfl
         have c2:W1.cell? ⟨w.heap.size,2,none⟩=some (.int .i64 tg):=by rw[cell_of_row _ _ _ _ _ _ hh];rfl
         have c3:W1.cell? ⟨w.heap.size,3,none⟩=some (.int .i64 cu):=by rw[cell_of_row _ _ _ _ _ _ hh];rfl
         have c4:W1.cell? ⟨w.heap.size,4,none⟩=some (.int .i64 io):=by rw[cell_of_row _ _ _ _ _ _ hh];rfl
         have c5:W1.cell? ⟨w.heap.size,5,none⟩=some (.int .i64 ba):=by rw[cell_of_row _ _ _ _ _ _ hh];rfl
         clear hh;go_quiet (first|(go_at_call 52;with_reducible refine Zai (K0.out _))|(go_at_call 54;with_reducible refine Zai (K1.out _))|(go_at_call 54;with_reducible refine Zai (K2.out _))|(go_at_call 212;with_reducible refine Zai (K3.out _)))
         go_wp2;go_ret;exact⟨rfl,Zab hB _⟩
       . rw[h3,Bool.true_and] at HR
         rcases h4:(ba==0) with _|_
         . replace HR:st1g G1 G2 b tg cu io ba=false:=by rw[HR,h4] <;> rfl
           rw[HR];clear HR;clear hb hm hG1 hG2;go_enter Tryz.func203,Tryz.ntmps203;go_wp2;have hB:=Zaa w (.cells #[.int .i64 b,.int .i64 1,.int .i64 tg,.int .i64 cu,.int .i64 io,.int .i64 ba,.int .i64 t0,.int .i64 t1,.int .i64 t2,.int .i64 t3,.int .i64 t4,.int .i64 t5] 118);have hh:=heap_alloc_new w (.cells #[.int .i64 b,.int .i64 1,.int .i64 tg,.int .i64 cu,.int .i64 io,.int .i64 ba,.int .i64 t0,.int .i64 t1,.int .i64 t2,.int .i64 t3,.int .i64 t4,.int .i64 t5] 118);generalize w.alloc (.cells #[.int .i64 b,.int .i64 1,.int .i64 tg,.int .i64 cu,.int .i64 io,.int .i64 ba,.int .i64 t0,.int .i64 t1,.int .i64 t2,.int .i64 t3,.int .i64 t4,.int .i64 t5] 118)=W1 at hB hh |-
           have c0:W1.cell? ⟨w.heap.size,0,none⟩=some (.int .i64 b):=by rw[cell_of_row _ _ _ _ _ _ hh];rfl
           have c2:W1.cell? ⟨w.heap.size,2,none⟩=some (.int .i64 tg):=by rw[cell_of_row _ _ _ _ _ _ hh];rfl
           have c3:W1.cell? ⟨w.heap.size,3,none⟩=some (.int .i64 cu):=by rw[cell_of_row _ _ _ _ _ _ hh];rfl
           have c4:W1.cell? ⟨w.heap.size,4,none⟩=some (.int .i64 io):=by rw[cell_of_row _ _ _ _ _ _ hh];rfl
           have c5:W1.cell? ⟨w.heap.size,5,none⟩=some (.int .i64 ba):=by rw[cell_of_row _ _ _ _ _ _ hh];rfl
           clear hh;go_quiet (first|(go_at_call 52;with_reducible refine Zai (K0.out _))|(go_at_call 54;with_reducible refine Zai (K1.out _))|(go_at_call 54;with_reducible refine Zai (K2.out _))|(go_at_call 212;with_reducible refine Zai (K3.out _)))
           go_wp2;go_ret;exact⟨rfl,Zab hB _⟩
         . rw[h4] at HR
           rw[HR];clear HR;clear hb hm hG1 hG2;go_enter Tryz.func203,Tryz.ntmps203;go_wp2;have hB:=Zaa w (.cells #[.int .i64 b,.int .i64 1,.int .i64 tg,.int .i64 cu,.int .i64 io,.int .i64 ba,.int .i64 t0,.int .i64 t1,.int .i64 t2,.int .i64 t3,.int .i64 t4,.int .i64 t5] 118);have hh:=heap_alloc_new w (.cells #[.int .i64 b,.int .i64 1,.int .i64 tg,.int .i64 cu,.int .i64 io,.int .i64 ba,.int .i64 t0,.int .i64 t1,.int .i64 t2,.int .i64 t3,.int .i64 t4,.int .i64 t5] 118);generalize w.alloc (.cells #[.int .i64 b,.int .i64 1,.int .i64 tg,.int .i64 cu,.int .i64 io,.int .i64 ba,.int .i64 t0,.int .i64 t1,.int .i64 t2,.int .i64 t3,.int .i64 t4,.int .i64 t5] 118)=W1 at hB hh |-
           have c0:W1.cell? ⟨w.heap.size,0,none⟩=some (.int .i64 b):=by rw[cell_of_row _ _ _ _ _ _ hh];rfl
           have c2:W1.cell? ⟨w.heap.size,2,none⟩=some (.int .i64 tg):=by rw[cell_of_row _ _ _ _ _ _ hh];rfl
           have c3:W1.cell? ⟨w.heap.size,3,none⟩=some (.int .i64 cu):=by rw[cell_of_row _ _ _ _ _ _ hh];rfl
           have c4:W1.cell? ⟨w.heap.size,4,none⟩=some (.int .i64 io):=by rw[cell_of_row _ _ _ _ _ _ hh];rfl
           have c5:W1.cell? ⟨w.heap.size,5,none⟩=some (.int .i64 ba):=by rw[cell_of_row _ _ _ _ _ _ hh];rfl
           clear hh;go_quiet (first|(go_at_call 52;with_reducible refine Zai (K0.out _))|(go_at_call 54;with_reducible refine Zai (K1.out _))|(go_at_call 54;with_reducible refine Zai (K2.out _))|(go_at_call 212;with_reducible refine Zai (K3.out _)))
           go_wp2;go_ret;exact⟨rfl,Zab hB _⟩
set_option maxHeartbeats 2000000 in
theorem sState2(b tg cu io ba t0 t1 t2 t3 t4 t5:Int)(w:World)(hb:frmB b=true)(hm:tg<=9223372036854775807):Calls Tryz.prog 203 #[.agg #[.int .i64 b,.int .i64 2,.int .i64 tg,.int .i64 cu,.int .i64 io,.int .i64 ba,.int .i64 t0,.int .i64 t1,.int .i64 t2,.int .i64 t3,.int .i64 t4,.int .i64 t5]] w fun e w'=>e=.returned (.bool (st2 b tg cu io ba))/\Below w.heap.size w w':=by
 have hb0:0<=b:=(Zbr hb).1;have hb1:b<=768:=(Zbr hb).2.1;have HR:st2 b tg cu io ba=((frmB tg) && ((decide (tg<b)) && ((cu==0) && ((io==0) && ((ba==0)))))):=rfl;rcases h0:(frmB tg) with _|_
 . replace HR:st2 b tg cu io ba=false:=by rw[HR,h0] <;> rfl
   rw[HR];clear HR;have K0:=hid (Zgl tg hm false h0);clear h0;clear hb hm;go_enter Tryz.func203,Tryz.ntmps203;go_wp2_with (first|(go_at_call 52;with_reducible refine(K0.out _).mono ?_;rintro e w' ⟨rfl,rfl⟩))
   go_ret;exact⟨rfl,Zaa _ _⟩
 . rw[h0,Bool.true_and] at HR
   have ht0:0<=tg:=(Zbr h0).1;have ht1:tg<=768:=(Zbr h0).2.1;have K0:=hid (Zgl tg hm true h0);clear h0;rcases h1:(decide (tg<b)) with _|_
   . replace HR:st2 b tg cu io ba=false:=by rw[HR,h1] <;> rfl
     rw[HR];clear HR;have g1:¬ tg<b:=of_decide_eq_false h1;clear hb hm;go_enter Tryz.func203,Tryz.ntmps203;go_wp2_with (first|(go_at_call 52;with_reducible refine(K0.out _).mono ?_;rintro e w' ⟨rfl,rfl⟩))
     go_ret;exact⟨rfl,Zaa _ _⟩
   . rw[h1,Bool.true_and] at HR
     have g1:tg<b:=of_decide_eq_true h1;rcases h2:(cu==0) with _|_
     . replace HR:st2 b tg cu io ba=false:=by rw[HR,h2] <;> rfl
       rw[HR];clear HR;clear hb hm;go_enter Tryz.func203,Tryz.ntmps203;go_wp2_with (first|(go_at_call 52;with_reducible refine(K0.out _).mono ?_;rintro e w' ⟨rfl,rfl⟩))
       go_ret;exact⟨rfl,Zaa _ _⟩
     . rw[h2,Bool.true_and] at HR
       rcases h3:(io==0) with _|_
       . replace HR:st2 b tg cu io ba=false:=by rw[HR,h3] <;> rfl
         rw[HR];clear HR;clear hb hm;go_enter Tryz.func203,Tryz.ntmps203;go_wp2_with (first|(go_at_call 52;with_reducible refine(K0.out _).mono ?_;rintro e w' ⟨rfl,rfl⟩))
         go_ret;exact⟨rfl,Zaa _ _⟩
       . rw[h3,Bool.true_and] at HR
         rcases h4:(ba==0) with _|_
         . replace HR:st2 b tg cu io ba=false:=by rw[HR,h4] <;> rfl
           rw[HR];clear HR;clear hb hm;go_enter Tryz.func203,Tryz.ntmps203;go_wp2_with (first|(go_at_call 52;with_reducible refine(K0.out _).mono ?_;rintro e w' ⟨rfl,rfl⟩))
           go_ret;exact⟨rfl,Zaa _ _⟩
         . rw[h4] at HR
           rw[HR];clear HR;clear hb hm;go_enter Tryz.func203,Tryz.ntmps203;go_wp2_with (first|(go_at_call 52;with_reducible refine(K0.out _).mono ?_;rintro e w' ⟨rfl,rfl⟩))
           go_ret;exact⟨rfl,Zaa _ _⟩
set_option maxHeartbeats 2000000 in
theorem sState3(b tg cu io ba t0 t1 t2 t3 t4 t5:Int)(w:World)(hb:frmB b=true)(hm:tg<=9223372036854775807):Calls Tryz.prog 203 #[.agg #[.int .i64 b,.int .i64 3,.int .i64 tg,.int .i64 cu,.int .i64 io,.int .i64 ba,.int .i64 t0,.int .i64 t1,.int .i64 t2,.int .i64 t3,.int .i64 t4,.int .i64 t5]] w fun e w'=>e=.returned (.bool (st3 b tg cu io ba))/\Below w.heap.size w w':=by
 have HR:st3 b tg cu io ba=((tg==0) && ((decide (1<=io/\io<=47)) && ((decide (0<=ba/\ba<=b)) && ((decide (0<=cu/\cu<=b)))))):=rfl;rcases h0:(tg==0) with _|_
 . replace HR:st3 b tg cu io ba=false:=by rw[HR,h0] <;> rfl
   rw[HR];clear HR;clear hb hm;go_enter Tryz.func203,Tryz.ntmps203;go_wp2;go_ret;exact⟨rfl,Zaa _ _⟩
 . rw[h0,Bool.true_and] at HR
   rcases h1:(decide (1<=io/\io<=47)) with _|_
   . replace HR:st3 b tg cu io ba=false:=by rw[HR,h1] <;> rfl
     rw[HR];clear HR;have K0:=hid (Zbi io (1) (47) false h1);clear h1;clear hb hm;go_enter Tryz.func203,Tryz.ntmps203;go_wp2_with (first|(go_at_call 212;with_reducible refine(K0.out _).mono ?_;rintro e w' ⟨rfl,rfl⟩))
     go_ret;exact⟨rfl,Zaa _ _⟩
   . rw[h1,Bool.true_and] at HR
     have K0:=hid (Zbi io (1) (47) true h1);clear h1;rcases h2:(decide (0<=ba/\ba<=b)) with _|_
     . replace HR:st3 b tg cu io ba=false:=by rw[HR,h2] <;> rfl
       rw[HR];clear HR;have K1:=hid (Zbi ba (0) (b) false h2);clear h2;clear hb hm;go_enter Tryz.func203,Tryz.ntmps203;go_wp2_with (first|(go_at_call 212;with_reducible refine(K0.out _).mono ?_;rintro e w' ⟨rfl,rfl⟩)|(go_at_call 212;with_reducible refine(K1.out _).mono ?_;rintro e w' ⟨rfl,rfl⟩))
       go_ret;exact⟨rfl,Zaa _ _⟩
     . rw[h2,Bool.true_and] at HR
       have K1:=hid (Zbi ba (0) (b) true h2);clear h2;rcases h3:(decide (0<=cu/\cu<=b)) with _|_
       . replace HR:st3 b tg cu io ba=false:=by rw[HR,h3] <;> rfl
         rw[HR];clear HR;have K2:=hid (Zbi cu (0) (b) false h3);clear h3;clear hb hm;go_enter Tryz.func203,Tryz.ntmps203;go_wp2_with (first|(go_at_call 212;with_reducible refine(K0.out _).mono ?_;rintro e w' ⟨rfl,rfl⟩)|(go_at_call 212;with_reducible refine(K1.out _).mono ?_;rintro e w' ⟨rfl,rfl⟩)|(go_at_call 212;with_reducible refine(K2.out _).mono ?_;rintro e w' ⟨rfl,rfl⟩))
         go_ret;exact⟨rfl,Zaa _ _⟩
       . rw[h3] at HR
         have K2:=hid (Zbi cu (0) (b) true h3);clear h3;rw[HR];clear HR;clear hb hm;go_enter Tryz.func203,Tryz.ntmps203;go_wp2_with (first|(go_at_call 212;with_reducible refine(K0.out _).mono ?_;rintro e w' ⟨rfl,rfl⟩)|(go_at_call 212;with_reducible refine(K1.out _).mono ?_;rintro e w' ⟨rfl,rfl⟩)|(go_at_call 212;with_reducible refine(K2.out _).mono ?_;rintro e w' ⟨rfl,rfl⟩))
         go_ret;exact⟨rfl,Zaa _ _⟩
set_option maxHeartbeats 2000000 in
theorem rState1(b tg cu io ba t0 t1 t2 t3 t4 t5:Int)(w:World)(hb:frmB b=true)(hm:tg<=9223372036854775807):Calls Tryz.prog 170 #[.agg #[.int .i64 b,.int .i64 1,.int .i64 tg,.int .i64 cu,.int .i64 io,.int .i64 ba,.int .i64 t0,.int .i64 t1,.int .i64 t2,.int .i64 t3,.int .i64 t4,.int .i64 t5]] w fun e w'=>e=.returned (.bool (st1r b tg cu io ba))/\Below w.heap.size w w':=by
 have hb0:0<=b:=(Zbr hb).1;have hb1:b<=768:=(Zbr hb).2.1;have HR:st1r b tg cu io ba=((frmB tg) && ((decide (b<tg)) && ((decide (b / 64<=cu)) && ((decide (cu<=tg / 64)) && ((io==0) && ((ba==0))))))):=rfl;rcases h0:(frmB tg) with _|_
 . replace HR:st1r b tg cu io ba=false:=by rw[HR,h0] <;> rfl
   rw[HR];clear HR;have K0:=hid (Zga tg hm false h0);clear h0;clear hb hm;go_enter Tryz.func170,Tryz.ntmps170;go_wp2_with (first|(go_at_call 50;with_reducible refine(K0.out _).mono ?_;rintro e w' ⟨rfl,rfl⟩))
   go_ret;exact⟨rfl,Zaa _ _⟩
 . rw[h0,Bool.true_and] at HR
   have ht0:0<=tg:=(Zbr h0).1;have ht1:tg<=768:=(Zbr h0).2.1;have K0:=hid (Zga tg hm true h0);clear h0;rcases h1:(decide (b<tg)) with _|_
   . replace HR:st1r b tg cu io ba=false:=by rw[HR,h1] <;> rfl
     rw[HR];clear HR;have g1:¬ b<tg:=of_decide_eq_false h1;clear hb hm;go_enter Tryz.func170,Tryz.ntmps170;go_wp2_with (first|(go_at_call 50;with_reducible refine(K0.out _).mono ?_;rintro e w' ⟨rfl,rfl⟩))
     go_ret;exact⟨rfl,Zaa _ _⟩
   . rw[h1,Bool.true_and] at HR
     have g1:b<tg:=of_decide_eq_true h1;rcases h2:(decide (b / 64<=cu)) with _|_
     . replace HR:st1r b tg cu io ba=false:=by rw[HR,h2] <;> rfl
       rw[HR];clear HR;have g2:¬ b / 64<=cu:=of_decide_eq_false h2;clear hb hm;go_enter Tryz.func170,Tryz.ntmps170;go_wp2_with (first|(go_at_call 50;with_reducible refine(K0.out _).mono ?_;rintro e w' ⟨rfl,rfl⟩))
       go_ret;exact⟨rfl,Zaa _ _⟩
     . rw[h2,Bool.true_and] at HR
       have g2:b / 64<=cu:=of_decide_eq_true h2;rcases h3:(decide (cu<=tg / 64)) with _|_
       . replace HR:st1r b tg cu io ba=false:=by rw[HR,h3] <;> rfl
         rw[HR];clear HR;have g3:¬ cu<=tg / 64:=of_decide_eq_false h3;clear hb hm;go_enter Tryz.func170,Tryz.ntmps170;go_wp2_with (first|(go_at_call 50;with_reducible refine(K0.out _).mono ?_;rintro e w' ⟨rfl,rfl⟩))
         go_ret;exact⟨rfl,Zaa _ _⟩
       . rw[h3,Bool.true_and] at HR
         have g3:cu<=tg / 64:=of_decide_eq_true h3;rcases h4:(io==0) with _|_
         . replace HR:st1r b tg cu io ba=false:=by rw[HR,h4] <;> rfl
           rw[HR];clear HR;clear hb hm;go_enter Tryz.func170,Tryz.ntmps170;go_wp2_with (first|(go_at_call 50;with_reducible refine(K0.out _).mono ?_;rintro e w' ⟨rfl,rfl⟩))
           go_ret;exact⟨rfl,Zaa _ _⟩
         . rw[h4,Bool.true_and] at HR
           rcases h5:(ba==0) with _|_
           . replace HR:st1r b tg cu io ba=false:=by rw[HR,h5] <;> rfl
             rw[HR];clear HR;clear hb hm;go_enter Tryz.func170,Tryz.ntmps170;go_wp2_with (first|(go_at_call 50;with_reducible refine(K0.out _).mono ?_;rintro e w' ⟨rfl,rfl⟩))
             go_ret;exact⟨rfl,Zaa _ _⟩
           . rw[h5] at HR
             rw[HR];clear HR;clear hb hm;go_enter Tryz.func170,Tryz.ntmps170;go_wp2_with (first|(go_at_call 50;with_reducible refine(K0.out _).mono ?_;rintro e w' ⟨rfl,rfl⟩))
             go_ret;exact⟨rfl,Zaa _ _⟩
set_option maxHeartbeats 2000000 in
theorem rState2(b tg cu io ba t0 t1 t2 t3 t4 t5:Int)(w:World)(hb:frmB b=true)(hm:tg<=9223372036854775807):Calls Tryz.prog 170 #[.agg #[.int .i64 b,.int .i64 2,.int .i64 tg,.int .i64 cu,.int .i64 io,.int .i64 ba,.int .i64 t0,.int .i64 t1,.int .i64 t2,.int .i64 t3,.int .i64 t4,.int .i64 t5]] w fun e w'=>e=.returned (.bool (st2 b tg cu io ba))/\Below w.heap.size w w':=by
 have hb0:0<=b:=(Zbr hb).1;have hb1:b<=768:=(Zbr hb).2.1;have HR:st2 b tg cu io ba=((frmB tg) && ((decide (tg<b)) && ((cu==0) && ((io==0) && ((ba==0)))))):=rfl;rcases h0:(frmB tg) with _|_
 . replace HR:st2 b tg cu io ba=false:=by rw[HR,h0] <;> rfl
   rw[HR];clear HR;have K0:=hid (Zga tg hm false h0);clear h0;clear hb hm;go_enter Tryz.func170,Tryz.ntmps170;go_wp2_with (first|(go_at_call 50;with_reducible refine(K0.out _).mono ?_;rintro e w' ⟨rfl,rfl⟩))
   go_ret;exact⟨rfl,Zaa _ _⟩
 . rw[h0,Bool.true_and] at HR
   have ht0:0<=tg:=(Zbr h0).1;have ht1:tg<=768:=(Zbr h0).2.1;have K0:=hid (Zga tg hm true h0);clear h0;rcases h1:(decide (tg<b)) with _|_
   . replace HR:st2 b tg cu io ba=false:=by rw[HR,h1] <;> rfl
     rw[HR];clear HR;have g1:¬ tg<b:=of_decide_eq_false h1;clear hb hm;go_enter Tryz.func170,Tryz.ntmps170;go_wp2_with (first|(go_at_call 50;with_reducible refine(K0.out _).mono ?_;rintro e w' ⟨rfl,rfl⟩))
     go_ret;exact⟨rfl,Zaa _ _⟩
   . rw[h1,Bool.true_and] at HR
     have g1:tg<b:=of_decide_eq_true h1;rcases h2:(cu==0) with _|_
     . replace HR:st2 b tg cu io ba=false:=by rw[HR,h2] <;> rfl
       rw[HR];clear HR;clear hb hm;go_enter Tryz.func170,Tryz.ntmps170;go_wp2_with (first|(go_at_call 50;with_reducible refine(K0.out _).mono ?_;rintro e w' ⟨rfl,rfl⟩))
       go_ret;exact⟨rfl,Zaa _ _⟩
     . rw[h2,Bool.true_and] at HR
       rcases h3:(io==0) with _|_
       . replace HR:st2 b tg cu io ba=false:=by rw[HR,h3] <;> rfl
         rw[HR];clear HR;clear hb hm;go_enter Tryz.func170,Tryz.ntmps170;go_wp2_with (first|(go_at_call 50;with_reducible refine(K0.out _).mono ?_;rintro e w' ⟨rfl,rfl⟩))
         go_ret;exact⟨rfl,Zaa _ _⟩
       . rw[h3,Bool.true_and] at HR
         rcases h4:(ba==0) with _|_
         . replace HR:st2 b tg cu io ba=false:=by rw[HR,h4] <;> rfl
           rw[HR];clear HR;clear hb hm;go_enter Tryz.func170,Tryz.ntmps170;go_wp2_with (first|(go_at_call 50;with_reducible refine(K0.out _).mono ?_;rintro e w' ⟨rfl,rfl⟩))
           go_ret;exact⟨rfl,Zaa _ _⟩
         . rw[h4] at HR
           rw[HR];clear HR;clear hb hm;go_enter Tryz.func170,Tryz.ntmps170;go_wp2_with (first|(go_at_call 50;with_reducible refine(K0.out _).mono ?_;rintro e w' ⟨rfl,rfl⟩))
           go_ret;exact⟨rfl,Zaa _ _⟩
set_option maxHeartbeats 2000000 in
theorem rState3(b tg cu io ba t0 t1 t2 t3 t4 t5:Int)(w:World)(hb:frmB b=true)(hm:tg<=9223372036854775807):Calls Tryz.prog 170 #[.agg #[.int .i64 b,.int .i64 3,.int .i64 tg,.int .i64 cu,.int .i64 io,.int .i64 ba,.int .i64 t0,.int .i64 t1,.int .i64 t2,.int .i64 t3,.int .i64 t4,.int .i64 t5]] w fun e w'=>e=.returned (.bool (st3r b tg cu io ba))/\Below w.heap.size w w':=by
 have hb0:0<=b:=(Zbr hb).1;have hb1:b<=768:=(Zbr hb).2.1;have HR:st3r b tg cu io ba=((tg==0) && ((decide (1<=io)) && ((decide (io<=47)) && ((decide (0<=ba)) && ((decide (ba<=b)) && ((decide (0<=cu)) && ((decide (cu<=b))))))))):=rfl;rcases h0:(tg==0) with _|_
 . replace HR:st3r b tg cu io ba=false:=by rw[HR,h0] <;> rfl
   rw[HR];clear HR;clear hb hm;go_enter Tryz.func170,Tryz.ntmps170;go_wp2;go_ret;exact⟨rfl,Zaa _ _⟩
 . rw[h0,Bool.true_and] at HR
   rcases h1:(decide (1<=io)) with _|_
   . replace HR:st3r b tg cu io ba=false:=by rw[HR,h1] <;> rfl
     rw[HR];clear HR;have g1:¬ 1<=io:=of_decide_eq_false h1;clear hb hm;go_enter Tryz.func170,Tryz.ntmps170;go_wp2;go_ret;exact⟨rfl,Zaa _ _⟩
   . rw[h1,Bool.true_and] at HR
     have g1:1<=io:=of_decide_eq_true h1;rcases h2:(decide (io<=47)) with _|_
     . replace HR:st3r b tg cu io ba=false:=by rw[HR,h2] <;> rfl
       rw[HR];clear HR;have g2:¬ io<=47:=of_decide_eq_false h2;clear hb hm;go_enter Tryz.func170,Tryz.ntmps170;go_wp2;go_ret;exact⟨rfl,Zaa _ _⟩
     . rw[h2,Bool.true_and] at HR
       have g2:io<=47:=of_decide_eq_true h2;rcases h3:(decide (0<=ba)) with _|_
       . replace HR:st3r b tg cu io ba=false:=by rw[HR,h3] <;> rfl
         rw[HR];clear HR;have g3:¬ 0<=ba:=of_decide_eq_false h3;clear hb hm;go_enter Tryz.func170,Tryz.ntmps170;go_wp2;go_ret;exact⟨rfl,Zaa _ _⟩
       . rw[h3,Bool.true_and] at HR
         have g3:0<=ba:=of_decide_eq_true h3;rcases h4:(decide (ba<=b)) with _|_
         . replace HR:st3r b tg cu io ba=false:=by rw[HR,h4] <;> rfl
           rw[HR];clear HR;have g4:¬ ba<=b:=of_decide_eq_false h4;clear hb hm;go_enter Tryz.func170,Tryz.ntmps170;go_wp2;go_ret;exact⟨rfl,Zaa _ _⟩
         . rw[h4,Bool.true_and] at HR
           have g4:ba<=b:=of_decide_eq_true h4;rcases h5:(decide (0<=cu)) with _|_
           . replace HR:st3r b tg cu io ba=false:=by rw[HR,h5] <;> rfl
             rw[HR];clear HR;have g5:¬ 0<=cu:=of_decide_eq_false h5;clear hb hm;go_enter Tryz.func170,Tryz.ntmps170;go_wp2;go_ret;exact⟨rfl,Zaa _ _⟩
           . rw[h5,Bool.true_and] at HR
             have g5:0<=cu:=of_decide_eq_true h5;rcases h6:(decide (cu<=b)) with _|_
             . replace HR:st3r b tg cu io ba=false:=by rw[HR,h6] <;> rfl
               rw[HR];clear HR;have g6:¬ cu<=b:=of_decide_eq_false h6;clear hb hm;go_enter Tryz.func170,Tryz.ntmps170;go_wp2;go_ret;exact⟨rfl,Zaa _ _⟩
             . rw[h6] at HR
               have g6:cu<=b:=of_decide_eq_true h6;rw[HR];clear HR;clear hb hm;go_enter Tryz.func170,Tryz.ntmps170;go_wp2;go_ret;exact⟨rfl,Zaa _ _⟩
theorem sStateN(st:Int)(b tg cu io ba t0 t1 t2 t3 t4 t5:Int)(w:World)(h0:st≠0)(h1:st≠1)(h2:st≠2)(h3:st≠3):Calls Tryz.prog 203 #[.agg #[.int .i64 b,.int .i64 st,.int .i64 tg,.int .i64 cu,.int .i64 io,.int .i64 ba,.int .i64 t0,.int .i64 t1,.int .i64 t2,.int .i64 t3,.int .i64 t4,.int .i64 t5]] w fun e w'=>e=.returned (.bool false)/\Below w.heap.size w w':=by
 have e0:(st==0)=false:=by simp[h0]
 have e1:(st==1)=false:=by simp[h1]
 have e2:(st==2)=false:=by simp[h2]
 have e3:(st==3)=false:=by simp[h3]
 clear h0 h1 h2 h3;go_enter Tryz.func203,Tryz.ntmps203;go_wp2;go_ret;exact⟨rfl,Zaa _ _⟩
theorem rStateN(st:Int)(b tg cu io ba t0 t1 t2 t3 t4 t5:Int)(w:World)(h0:st≠0)(h1:st≠1)(h2:st≠2)(h3:st≠3):Calls Tryz.prog 170 #[.agg #[.int .i64 b,.int .i64 st,.int .i64 tg,.int .i64 cu,.int .i64 io,.int .i64 ba,.int .i64 t0,.int .i64 t1,.int .i64 t2,.int .i64 t3,.int .i64 t4,.int .i64 t5]] w fun e w'=>e=.returned (.bool false)/\Below w.heap.size w w':=by
 have e0:(st==0)=false:=by simp[h0]
 have e1:(st==1)=false:=by simp[h1]
 have e2:(st==2)=false:=by simp[h2]
 have e3:(st==3)=false:=by simp[h3]
 clear h0 h1 h2 h3;go_enter Tryz.func170,Tryz.ntmps170;go_wp2;go_ret;exact⟨rfl,Zaa _ _⟩
end Go.Proofs.YtedabomlfcghoaaGreat
