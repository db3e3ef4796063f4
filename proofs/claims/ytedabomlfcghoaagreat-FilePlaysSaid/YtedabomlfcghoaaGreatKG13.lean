/- What the law rests on: part 13. -/
import Derived.Test.YtedabomlfcghoaaGreatKG12
set_option linter.unusedVariables false
namespace Go.Proofs.YtedabomlfcghoaaGreat
set_option maxRecDepth 100000
open Go.RowKit
def supV(L:List Int):Value:=.agg (L.map (Value.int .i64)).toArray
def supO(L:List Int)(T:TypeId):Obj:=.cells (L.map (Value.int .i64)).toArray T (0,0)
theorem Zgt{W:World}{g:Nat}{L:List Int}{T:TypeId}(h:W.heap[g]? =some (supO L T))(k:Nat)(hk:k<L.length):W.cell? ⟨g,k,none⟩=some (.int .i64 (num L k)):=by
 rw[cell_of_row _ _ _ _ _ _ h];simp[num,List.getD_eq_getElem?_getD,hk]
def Top(L:List Int):Prop:=∀ i,num L i<=9223372036854775807
theorem infoInt:(Tryz.prog.info? 3).map (fun i=>(i.zero,i.size,i.bytes))=some (some (.int .i64 0),1,8):=by kernel_rfl
theorem arr6_len:Tryz.prog.arrayLen 116=6:=by kernel_rfl
theorem arr6_elem:Tryz.prog.elem 116=3:=by kernel_rfl
theorem run_slice_arr6(W:World)(a:Addr)(j:Nat)(hj:j<=6):(Instr.sliceAt 116 (.pointer (some a)) none (some (.int .i64 (j:Int))) none).run Tryz.prog W=.ok (.slice (some a) j 6) W:=by
 obtain⟨i,h2,h3,h4,h5⟩:=info_parts infoInt;rw[run_sliceAt_array_h W 116 a (by rw[arr6_len,arr6_elem];exact Tryz.underlying116) .i64 (j:Int) (by omega) (by rw[arr6_len];omega),arr6_len,arr6_elem];obtain⟨a1,a2,a3⟩:=a;simp[sizeOf,typeInfo,h2,h4,slicedAt,Addr.add]
theorem sTable_of{L:List Int}(hL:L.length=12)(hT:Top L)(hb0:0<=num L 0)(hb1:num L 0<=768)(w:World):
 Calls Tryz.prog 204 #[supV L] w fun e w'=>e=.returned (.bool (Zid L))/\Below w.heap.size w w':=by
 have hob:=Zaa w (supO L 118);have hh:=heap_alloc_new w (supO L 118);have hcel:=fun k hk=>Zgt hh k hk
 obtain⟨W1,hW1⟩:∃ W1,W1=w.alloc (supO L 118):=⟨_,rfl⟩;rw[<- hW1] at hob hcel;have HC:=hid hcel;have HW1:=hid hW1;have HTO:=hid hT;clear hcel hh hT
 match L,hL with
 |[b,st,tg,cu,io,ba,t0,t1,t2,t3,t4,t5],_=>
  obtain⟨L,hLL⟩:∃ L,L=[b,st,tg,cu,io,ba,t0,t1,t2,t3,t4,t5]:=⟨_,rfl⟩;rw[<- hLL] at HC HW1 HTO;have HL:=hid hLL;have eb:num L 0=b:=by rw[hLL];rfl
  have hW2:w.alloc (.cells #[.int .i64 b,.int .i64 st,.int .i64 tg,.int .i64 cu,.int .i64 io,.int .i64 ba,.int .i64 t0,.int .i64 t1,.int .i64 t2,.int .i64 t3,.int .i64 t4,.int .i64 t5] 118)=W1:=by
   rw[hW1];rfl
  show Calls Tryz.prog 204 #[.agg #[.int .i64 b,.int .i64 st,.int .i64 tg,.int .i64 cu,.int .i64 io,.int .i64 ba,.int .i64 t0,.int .i64 t1,.int .i64 t2,.int .i64 t3,.int .i64 t4,.int .i64 t5]] w fun e w'=>e=.returned (.bool (Zid [b,st,tg,cu,io,ba,t0,t1,t2,t3,t4,t5]))/\Below w.heap.size w w'
  rw[<- hLL];have H2:=hid hW2;change 0<=b at hb0;change b<=768 at hb1;clear hLL hW1 hW2;go_enter Tryz.func204,Tryz.ntmps204;go_wp2;rw[H2.out];have hidx:∀ j:Nat,j<6->(Instr.index 116 (.agg #[Value.int .i64 t0,.int .i64 t1,.int .i64 t2,.int .i64 t3,.int .i64 t4,.int .i64 t5]) (.int .i64 (j:Int))).run Tryz.prog W1=.ok (.int .i64 (num L (6+j))) W1:=by
   intro j hj;rw[HL.out];have:j=0\/j=1\/j=2\/j=3\/j=4\/j=5:=by omega
   rcases this with rfl|rfl|rfl|rfl|rfl|rfl <;> simp[Instr.index,run_underlying Tryz.underlying116,asIntOf,go_sem,num]
  have HIX:=hid hidx;have hsl:∀ j:Nat,j<=6->_:=fun j=>run_slice_arr6 W1 ⟨w.heap.size,6,none⟩ j
  have HSL:=hid hsl;clear hsl;clear hidx
  go_loop [9] (fun i=>∃ j:Nat,j<=6/\i=.int .i64 j/\Hid (frmTo L j=true)) (fun i=>6-(intOf i).toNat)
  case atStart=>exact⟨0,by omega,rfl,rfl⟩
  case round=>
   obtain⟨j,hj,rfl,HF⟩:=hrel;by_cases hlt:j<6
   . have hix:=HIX.out j hlt
     have hxm:=HTO.out (6+j);have hcb:=HC.out 0 (by rw[HL.out];simp);rw[eb] at hcb;obtain⟨x,hx⟩:∃ x,x=num L (6+j):=⟨_,rfl⟩;rw[<- hx] at hix hxm;have HX:=hid hx;clear hx;have hno:¬ okTS L j->Zid L=false:=fun h=>by
      cases hf:Zid L
      . rfl
      . exact absurd (frm_tab hf j hlt) h
     have HNO:=hid hno;clear hno;rcases h1:decide (0<=x/\x<=b-1) with _|_
     . have hr:=HNO.out (fun h=>of_decide_eq_false h1 (by rw[HX.out,<- eb];exact h.1))
       have K1:=hid (Zbi x 0 (b-1) false h1);clear h1;go_wp2_with (first|(go_at_call 212;with_reducible refine(K1.out _).mono ?_;rintro e w' ⟨rfl,rfl⟩))
       go_ret;exact⟨by first|rfl|(rw [hr];rfl),hob⟩
     . have K1:=hid (Zbi x 0 (b-1) true h1)
       have HH1:=hid (of_decide_eq_true h1);clear h1;rcases h2:fixB x with _|_
       . have K2:=hid (Zkg x hxm false h2)
         have HH2:=hid h2;have hsl:=HSL.out j (by omega);clear h2;go_wp2_with (first|(go_at_call 212;with_reducible refine(K1.out _).mono ?_;rintro e w' ⟨rfl,rfl⟩)|(go_at_call 146;with_reducible refine(K2.out _).mono ?_;rintro e w' ⟨rfl,rfl⟩))
         clear hix hsl hcb
         go_loop [27] (fun i=>∃ k:Nat,k<=j/\i=.int .i64 k/\Hid (∀ m,m<k->num L (6+m)≠num L (6+j))) (fun i=>j-(intOf i).toNat)
         case atStart=>exact⟨0,by omega,rfl,fun m hm=>absurd hm (Nat.not_lt_zero _)⟩
         case round=>
          obtain⟨k,hk,rfl,HK⟩:=hrel;by_cases hlk:k<j
          . have hck:=HC.out (6+k) (by rw[HL.out];simp;omega)
            obtain⟨y,hy⟩:∃ y,y=num L (6+k):=⟨_,rfl⟩;rw[<- hy] at hck;have HY:=hid hy;clear hy;have elk:(k:Int)<(j:Int):=by omega
            rcases h3:(y==x) with _|_
            . go_wp2
              go_round
              case rel=>
               refine⟨k+1,by omega,by go_num,fun m hm=>?_⟩;by_cases e:m=k
               . subst e;rw[<- HY.out,<- HX.out];intro e;rw[e] at h3;simp at h3
               . exact HK.out m (by omega)
              case measure=>simp[intOf];omega
            . have hr:=HNO.out (fun h=>h.2.2 k hlk (by rw[<- HY.out,<- HX.out];simpa using h3))
              go_wp2;go_ret;exact⟨by first|rfl|(rw [hr];rfl),hob⟩
          . go_wp2
            go_round
            case rel=>
             obtain rfl:k=j:=by omega
             refine⟨k+1,by omega,by go_num,?_⟩;show frmTo L (k+1)=true
             exact frmTo_succ HF.out ⟨by rw[<- HX.out,eb];exact HH1.out,by rw[<- HX.out];exact HH2.out,HK.out⟩
            case measure=>simp[intOf];omega
       . have hr:=HNO.out (fun h=>by have:=h.2.1;rw[<- HX.out,h2] at this;cases this)
         have K2:=hid (Zkg x hxm true h2);clear h2;go_wp2_with (first|(go_at_call 212;with_reducible refine(K1.out _).mono ?_;rintro e w' ⟨rfl,rfl⟩)|(go_at_call 146;with_reducible refine(K2.out _).mono ?_;rintro e w' ⟨rfl,rfl⟩))
         go_ret;exact⟨by first|rfl|(rw [hr];rfl),hob⟩
   . go_wp2
     go_ret;obtain rfl:j=6:=by omega
     exact⟨by rw[Zid,HF.out];rfl,hob⟩
theorem sState_of{L:List Int}(hL:L.length=12)(hT:Top L)(hb:frmB (num L 0)=true)(w:World):
 Calls Tryz.prog 203 #[supV L] w fun e w'=>e=.returned (.bool (Zhk L))/\Below w.heap.size w w':=by
 match L,hL with
 |[b,st,tg,cu,io,ba,t0,t1,t2,t3,t4,t5],_=>
  have hm:tg<=9223372036854775807:=hT 2;show Calls Tryz.prog 203 #[.agg #[.int .i64 b,.int .i64 st,.int .i64 tg,.int .i64 cu,.int .i64 io,.int .i64 ba,.int .i64 t0,.int .i64 t1,.int .i64 t2,.int .i64 t3,.int .i64 t4,.int .i64 t5]] w fun e w'=>e=.returned (.bool (stS b st tg cu io ba))/\Below w.heap.size w w'
  unfold stS;by_cases h0:st=0
  . rw[if_pos h0,h0];exact sState0 b tg cu io ba t0 t1 t2 t3 t4 t5 w
  rw[if_neg h0];by_cases h1:st=1
  . rw[if_pos h1,h1];exact sState1g b tg cu io ba t0 t1 t2 t3 t4 t5 w hb hm _ _ rfl rfl
  rw[if_neg h1];by_cases h2:st=2
  . rw[if_pos h2,h2];exact sState2 b tg cu io ba t0 t1 t2 t3 t4 t5 w hb hm
  rw[if_neg h2];by_cases h3:st=3
  . rw[if_pos h3,h3];exact sState3 b tg cu io ba t0 t1 t2 t3 t4 t5 w hb hm
  rw[if_neg h3];exact sStateN st b tg cu io ba t0 t1 t2 t3 t4 t5 w h0 h1 h2 h3
theorem rStates_of{L:List Int}(hL:L.length=12)(hT:Top L)(hb:frmB (num L 0)=true)(w:World):
 Calls Tryz.prog 170 #[supV L] w fun e w'=>e=.returned (.bool (Zhk L))/\Below w.heap.size w w':=by
 match L,hL with
 |[b,st,tg,cu,io,ba,t0,t1,t2,t3,t4,t5],_=>
  have hm:tg<=9223372036854775807:=hT 2;show Calls Tryz.prog 170 #[.agg #[.int .i64 b,.int .i64 st,.int .i64 tg,.int .i64 cu,.int .i64 io,.int .i64 ba,.int .i64 t0,.int .i64 t1,.int .i64 t2,.int .i64 t3,.int .i64 t4,.int .i64 t5]] w fun e w'=>e=.returned (.bool (stS b st tg cu io ba))/\Below w.heap.size w w'
  unfold stS;by_cases h0:st=0
  . rw[if_pos h0,h0];exact rState0 b tg cu io ba t0 t1 t2 t3 t4 t5 w
  rw[if_neg h0];by_cases h1:st=1
  . rw[if_pos h1,h1,<- st1r_eq];exact rState1 b tg cu io ba t0 t1 t2 t3 t4 t5 w hb hm
  rw[if_neg h1];by_cases h2:st=2
  . rw[if_pos h2,h2];exact rState2 b tg cu io ba t0 t1 t2 t3 t4 t5 w hb hm
  rw[if_neg h2];by_cases h3:st=3
  . rw[if_pos h3,h3,<- st3r_eq];exact rState3 b tg cu io ba t0 t1 t2 t3 t4 t5 w hb hm
  rw[if_neg h3];exact rStateN st b tg cu io ba t0 t1 t2 t3 t4 t5 w h0 h1 h2 h3
theorem sState_is{L:List Int}(hL:L.length=12)(hT:Top L)(hb:frmB (num L 0)=true)(B:Bool)(h:Zhk L=B)(w:World):
 Calls Tryz.prog 203 #[supV L] w fun e w'=>e=.returned (.bool B)/\Below w.heap.size w w':=by rw[<- h];exact sState_of hL hT hb w
theorem rStates_is{L:List Int}(hL:L.length=12)(hT:Top L)(hb:frmB (num L 0)=true)(B:Bool)(h:Zhk L=B)(w:World):
 Calls Tryz.prog 170 #[supV L] w fun e w'=>e=.returned (.bool B)/\Below w.heap.size w w':=by rw[<- h];exact rStates_of hL hT hb w
theorem sTable_is{L:List Int}(hL:L.length=12)(hT:Top L)(hb:frmB (num L 0)=true)(B:Bool)(h:Zid L=B)(w:World):
 Calls Tryz.prog 204 #[supV L] w fun e w'=>e=.returned (.bool B)/\Below w.heap.size w w':=by
 rw[<- h];exact sTable_of hL hT (Zbr hb).1 (Zbr hb).2.1 w
theorem Zhs{W:World}{g:Nat}{T:TypeId}{b st tg cu io ba t0 t1 t2 t3 t4 t5:Int}(h:W.heap[g]? =some (supO [b,st,tg,cu,io,ba,t0,t1,t2,t3,t4,t5] T)):
 (W.cell? ⟨g,0,none⟩=some (.int .i64 b)/\W.cell? ⟨g,1,none⟩=some (.int .i64 st)/\W.cell? ⟨g,2,none⟩=some (.int .i64 tg)/\W.cell? ⟨g,3,none⟩=some (.int .i64 cu))/\
 (W.cell? ⟨g,4,none⟩=some (.int .i64 io)/\W.cell? ⟨g,5,none⟩=some (.int .i64 ba)/\W.cell? ⟨g,6,none⟩=some (.int .i64 t0)/\W.cell? ⟨g,7,none⟩=some (.int .i64 t1))/\
 W.cell? ⟨g,8,none⟩=some (.int .i64 t2)/\W.cell? ⟨g,9,none⟩=some (.int .i64 t3)/\W.cell? ⟨g,10,none⟩=some (.int .i64 t4)/\W.cell? ⟨g,11,none⟩=some (.int .i64 t5):=by
 refine⟨⟨?_,?_,?_,?_⟩,⟨?_,?_,?_,?_⟩,?_,?_,?_,?_⟩ <;> (rw [cell_of_row _ _ _ _ _ _ h];rfl)
theorem sFormed_of{L:List Int}(hL:L.length=12)(hT:Top L)(w:World):
 Calls Tryz.prog 188 #[supV L] w fun e w'=>e=.returned (.bool (frmS L))/\Below w.heap.size w w':=by
 have h0:frmB (num L 0)=false\/frmB (num L 0)=true:=by cases frmB (num L 0) <;> simp
 have h1:Zhk L=false\/Zhk L=true:=by cases Zhk L <;> simp
 have h2:∃ B,Zid L=B:=⟨_,rfl⟩;have hL':=hL;have hm:=hT 0;have KF:∀ B,frmB (num L 0)=B->_:=fun B h=>Zgl (num L 0) hm B h
 have KS:∀ (hb:frmB (num L 0)=true) B,Zhk L=B->_:=fun hb B h=>sState_is hL hT hb B h
 have KT:∀ (hb:frmB (num L 0)=true) B,Zid L=B->_:=fun hb B h=>sTable_is hL hT hb B h
 have hr:frmS L=(frmB (num L 0) && (Zhk L && Zid L)):=rfl;have hob:=Zaa w (supO L 118);have hh:=heap_alloc_new w (supO L 118);obtain⟨W1,hW1⟩:∃ W1,W1=w.alloc (supO L 118):=⟨_,rfl⟩;rw[<- hW1] at hob hh
 match L,hL with
 |[b,st,tg,cu,io,ba,t0,t1,t2,t3,t4,t5],_=>
  have hW2:w.alloc (.cells #[.int .i64 b,.int .i64 st,.int .i64 tg,.int .i64 cu,.int .i64 io,.int .i64 ba,.int .i64 t0,.int .i64 t1,.int .i64 t2,.int .i64 t3,.int .i64 t4,.int .i64 t5] 118)=W1:=by
   rw[hW1];rfl
  have H2:=hid hW2;have HH:=hid hh;show Calls Tryz.prog 188 #[.agg #[.int .i64 b,.int .i64 st,.int .i64 tg,.int .i64 cu,.int .i64 io,.int .i64 ba,.int .i64 t0,.int .i64 t1,.int .i64 t2,.int .i64 t3,.int .i64 t4,.int .i64 t5]] w fun e w'=>e=.returned (.bool (frmS _))/\Below w.heap.size w w'
  rw[hr];change _<=_ at hm;rcases h0 with h0|h0
  . rw[h0]
    have K0:Hid (∀ w,Calls Tryz.prog 52 #[.int .i64 b] w fun e w'=>e=.returned (.bool false)/\w=w'):=hid (KF _ h0);clear KF KS KT hr h0 h1 h2 hh hW1 hW2 hT hm hL';go_enter Tryz.func188,Tryz.ntmps188;go_wp2_with (first|(go_at_call 52;with_reducible refine(K0.out _).mono ?_;rintro e w' ⟨rfl,rfl⟩))
    go_ret;exact⟨rfl,Zaa _ _⟩
  . rw[h0,Bool.true_and]
    have K0:Hid (∀ w,Calls Tryz.prog 52 #[.int .i64 b] w fun e w'=>e=.returned (.bool true)/\w=w'):=hid (KF _ h0);rcases h1 with h1|h1
    . rw[h1,Bool.false_and]
      have K1:Hid (∀ w,Calls Tryz.prog 203 #[.agg #[.int .i64 b,.int .i64 st,.int .i64 tg,.int .i64 cu,.int .i64 io,.int .i64 ba,.int .i64 t0,.int .i64 t1,.int .i64 t2,.int .i64 t3,.int .i64 t4,.int .i64 t5]] w fun e w'=>e=.returned (.bool false)/\Below w.heap.size w w'):=hid (KS h0 _ h1);clear KF KS KT hr h0 h1 h2 hh hW1 hW2 hT hm hL';go_enter Tryz.func188,Tryz.ntmps188
      go_wp2_with (first
       |(go_at_call 52;with_reducible refine(K0.out _).mono ?_;rintro e w' ⟨rfl,rfl⟩)
       |(go_at_call 203;rw[H2.out];refine(K1.out _).mono ?_;rintro e w2 ⟨rfl,hb2⟩))
      go_ret;exact⟨rfl,hob.trans (hb2.mono hob.size)⟩
    . rw[h1,Bool.true_and]
      obtain⟨B,h2⟩:=h2;rw[h2];have K1:Hid (∀ w,Calls Tryz.prog 203 #[.agg #[.int .i64 b,.int .i64 st,.int .i64 tg,.int .i64 cu,.int .i64 io,.int .i64 ba,.int .i64 t0,.int .i64 t1,.int .i64 t2,.int .i64 t3,.int .i64 t4,.int .i64 t5]] w fun e w'=>e=.returned (.bool true)/\Below w.heap.size w w'):=hid (KS h0 _ h1);have K2:Hid (∀ w,Calls Tryz.prog 204 #[.agg #[.int .i64 b,.int .i64 st,.int .i64 tg,.int .i64 cu,.int .i64 io,.int .i64 ba,.int .i64 t0,.int .i64 t1,.int .i64 t2,.int .i64 t3,.int .i64 t4,.int .i64 t5]] w fun e w'=>e=.returned (.bool B)/\Below w.heap.size w w'):=hid (KT h0 _ h2);clear KF KS KT hr h0 h1 h2 hh hW1 hW2 hT hm hL';go_enter Tryz.func188,Tryz.ntmps188
      go_wp2_with (first
       |(go_at_call 52;with_reducible refine(K0.out _).mono ?_;rintro e w' ⟨rfl,rfl⟩)
       |(go_at_call 203;rw[H2.out];refine(K1.out _).mono ?_;rintro e w2 ⟨rfl,hb2⟩
         have hc:=Zhs ((hb2.block _ (Array.getElem?_eq_some_iff.1 HH.out).1).trans HH.out))
       |(go_at_call 204;refine(K2.out _).mono ?_;rintro e w3 ⟨rfl,hb3⟩))
      go_ret;exact⟨rfl,(hob.trans (hb2.mono hob.size)).trans (hb3.mono (Nat.le_trans hob.size hb2.size))⟩
def fldL(g n:Nat):List Value:=(List.range n).flatMap fun i=>[.pointer (some ⟨g,i,none⟩),.int .i64 (wid i:Int)]
theorem fldL_succ(g n:Nat):fldL g (n+1)=fldL g n ++ [.pointer (some ⟨g,n,none⟩),.int .i64 (wid n:Int)]:=by
 simp[fldL,List.range_succ]
theorem Zhc(g n:Nat):(fldL g n).length=n*2:=by
 induction n with
 |zero=>rfl
 |succ n ih=>rw[fldL_succ,List.length_append,ih];simp;omega
theorem fldL_get(g:Nat):∀ n i,i<n->(fldL g n)[i*2]? =some (.pointer (some ⟨g,i,none⟩))/\(fldL g n)[i*2+1]? =some (.int .i64 (wid i:Int))
 |0,i,h=>absurd h (Nat.not_lt_zero _)
 |n+1,i,h=>by
  have hl:=Zhc g n;rw[fldL_succ];by_cases e:i<n
  . have:=fldL_get g n i e
    rw[List.getElem?_append_left (by omega),List.getElem?_append_left (by omega)];exact this
  . obtain rfl:i=n:=by omega
    rw[List.getElem?_append_right (by omega),List.getElem?_append_right (by omega),hl];exact⟨by simp,by rw[show i*2+1-i*2=1 by omega];rfl⟩
theorem infoF5:(Tryz.prog.info? 253).map (fun i=>(i.zero,i.size,i.bytes))=some (some (.agg #[.pointer none,.int .i64 0]),2,16):=by kernel_rfl
def Fld(w:World)(B g:Nat)(v:Value)(n:Nat):Prop:=w.ownsRow B 253 2 v n (fldL g n)
theorem Fld.below{w w':World}{B g:Nat}{v:Value}{n:Nat}(h:Fld w B g v n)(hb:Below w.heap.size w w'):Fld w' B g v n:=by
 refine⟨h.1,?_⟩;rcases h.2 with h| ⟨k,cap,cur,hv,hg,hh,r⟩
 . exact .inl h
 . exact .inr ⟨k,cap,cur,hv,hg,by rw[hb.block k (Array.getElem?_eq_some_iff.1 hh).1];exact hh,r⟩
theorem Zkv(w1:World)(g n:Nat)(hn:6<=n)(hn2:n<12){ops:Array Oper}{rest:List Oper}{o:Oper}{a:Act}{Q:Exit->Act->World->Prop}(hgd:o.guard=none)(s y:Operand)
 (ho:o.op=.call { callee:=.builtin .append,args:=#[s,y],argTypes:=#[249,249] })
 (B:Nat) (v:Value) (hs:a.eval s=v) (hown:Fld w1 B g v n) (hy:a.eval y=.slice (some ⟨w1.heap.size,0,none⟩) 1 1) (hB:B<=w1.heap.size)
 (h:∀ v' w',Fld w' B g v' (n+1)->Below B w1 w'->wpList Tryz.prog ops Q rest (a.put o.dst v') w'):wpList Tryz.prog ops Q (o :: rest) a (w1.alloc (.cells #[.pointer (some ⟨g,n,none⟩),.int .i64 2] 253)):=by
 obtain⟨i,h2,h3,h4,h5⟩:=info_parts infoF5;have hbel:Below w1.heap.size w1 (w1.alloc (.cells #[.pointer (some ⟨g,n,none⟩),.int .i64 2] 253)):=Zaa _ _;have hnew:(w1.alloc (.cells #[.pointer (some ⟨g,n,none⟩),.int .i64 2] 253)).heap[w1.heap.size]? =some (.cells #[.pointer (some ⟨g,n,none⟩),.int .i64 2] 253 (0,0)):=heap_alloc_new w1 _;have hw2:wid n=2:=if_neg (by omega);have hf:=hown.below hbel;refine wpList_append_own _ hgd s y 249 ho B 253 i _ 2 16 Tryz.underlying249 h2 h3 h4 h5 rfl (by decide) v n _ hs hf ⟨w1.heap.size,0,none⟩ 1 1 [.pointer (some ⟨g,n,none⟩),.int .i64 2] hy rfl ?_ ?_ (by simp only[maxLen];omega) (by omega) (by simp;omega) fun v' w' h6 h7 _=>?_
 . intro j u hj
   have hj2:j<2:=by simpa using (List.getElem?_eq_some_iff.1 hj).1
   rw[Addr.add_lit,Nat.zero_add,cell_of_row _ _ _ _ _ _ hnew,<- hj];have:j=0\/j=1:=by omega
   rcases this with rfl|rfl <;> rfl
 . intro u hu
   simp at hu;rcases hu with rfl|rfl <;> rfl
 . refine h v' w' ?_ ((hbel.mono hB).trans ((Below.refl _ _).grown h7 (by simp;omega) fun k hk=>(World.ownsRow.lt hf k hk).1))
   rw[Fld,fldL_succ,hw2];exact h6
set_option maxHeartbeats 1000000 in
theorem sFields_of(w:World)(g:Nat):Calls Tryz.prog 187 #[.pointer (some ⟨g,0,none⟩)] w fun e w'=>∃ v,e=.returned v/\Fld w' w.heap.size g v 12/\Below w.heap.size w w':=by
 go_enter Tryz.func187,Tryz.ntmps187;go_wp2;go_still_tail 24,(by kernel_rfl)
 go_wp2;have h6:fldL g 6=[.pointer (some ⟨g,0,none⟩),.int .i64 2,.pointer (some ⟨g,1,none⟩),.int .i64 1,.pointer (some ⟨g,2,none⟩),.int .i64 2,.pointer (some ⟨g,3,none⟩),.int .i64 2,.pointer (some ⟨g,4,none⟩),.int .i64 2,.pointer (some ⟨g,5,none⟩),.int .i64 2]:=rfl;rw[show(#[Value.pointer (some ⟨g,0,none⟩),.int .i64 2,.pointer (some ⟨g,1,none⟩),.int .i64 1,.pointer (some ⟨g,2,none⟩),.int .i64 2,.pointer (some ⟨g,3,none⟩),.int .i64 2,.pointer (some ⟨g,4,none⟩),.int .i64 2,.pointer (some ⟨g,5,none⟩),.int .i64 2]:Array Value)=(fldL g 6).toArray from rfl];have hh:=heap_alloc_new w (.cells (fldL g 6).toArray 253);have hb:=Zaa w (.cells (fldL g 6).toArray 253);obtain⟨W1,hW1⟩:∃ W1,W1=(w.alloc (.cells (fldL g 6).toArray 253)).drew:=⟨_,rfl⟩;have hb1:Below w.heap.size w W1:=by rw[hW1];exact Zab hb 1
 have hf1:Fld W1 w.heap.size g (.slice (some ⟨w.heap.size,0,none⟩) 6 6) 6:=by
  refine⟨Zhc g 6,.inr ⟨w.heap.size,6,_,rfl,Nat.le_refl _,by rw[hW1];exact hh,Nat.le_refl _,by decide,by simp[Zhc],?_⟩⟩;have:=Zhc g 6;rw[List.take_of_length_le (by simp[this])]
 rw[<- hW1];clear hh hb hW1 h6;go_loopw [3,30] (fun u i wr=>∃ j:Nat,j<=6/\i=.int .i64 j/\Hid (Fld wr w.heap.size g u (6+j))/\Below w.heap.size w wr) (fun _ i _=>6-(intOf i).toNat)
 case atStart=>exact⟨0,by omega,rfl,hf1,hb1⟩
 case round=>
  obtain⟨j,hj,rfl,HF,hbr⟩:=hrel;clear hf1 hb1;by_cases hlt:j<6
  . have ej:(j:Int)<6:=by omega
    go_wp2_with (at_builtin;refine Zkv wr g (6+j) (by omega) (by omega) rfl _ _ rfl w.heap.size _ rfl HF.out rfl hbr.size ?_;intro v2 w2 hf2 hb2)
    go_roundw
    case rel=>exact⟨j+1,by omega,by go_num,hf2,hbr.trans hb2⟩
    case measure=>simp[intOf];omega
  . go_wp2
    go_ret;obtain rfl:j=6:=by omega
    exact⟨_,rfl,HF.out,hbr⟩
theorem Fld.shape{w:World}{B g:Nat}{v:Value}{n:Nat}(h:Fld w B g v n)(hn:0<n):∃ gf cap,v=.slice (some ⟨gf,0,none⟩) n cap/\gf<w.heap.size/\B<=gf/\n<=cap/\
 ∀ j,j<n->w.cell? ⟨gf,j*2,none⟩=some (.pointer (some ⟨g,j,none⟩))/\w.cell? ⟨gf,j*2+1,none⟩=some (.int .i64 (wid j:Int)):=by
 rcases h.2 with⟨_,h0⟩| ⟨gf,cap,cur,hv,hg,hh,hnc,hm,hs,ht⟩
 . omega
 . refine⟨gf,cap,hv,(Array.getElem?_eq_some_iff.1 hh).1,hg,hnc,fun j hj=>?_⟩
   obtain⟨h1,h2⟩:=fldL_get g n j hj;rw[<- ht] at h1 h2;rw[cell_of_row _ _ _ _ _ _ hh,cell_of_row _ _ _ _ _ _ hh];rw[List.getElem?_take] at h1 h2;rw[if_pos (by omega)] at h1 h2;exact⟨by simpa using h1,by simpa using h2⟩
theorem wid_le(j:Nat):1<=wid j/\wid j<=2:=by unfold wid;split <;> omega
theorem sFormed_is{L:List Int}(hL:L.length=12)(hT:Top L)(B:Bool)(h:frmS L=B)(w:World):
 Calls Tryz.prog 188 #[supV L] w fun e w'=>e=.returned (.bool B)/\Below w.heap.size w w':=by rw[<- h];exact sFormed_of hL hT w
theorem rLoop_of(b st tg cu io ba t0 t1 t2 t3 t4 t5:Int)(L:List Int)(hLL:L=[b,st,tg,cu,io,ba,t0,t1,t2,t3,t4,t5])(hT:Top L)(hb1:b<=768)(w:World)
 (hF:∀ w,Calls Tryz.prog 50 #[.int .i64 b] w fun e w'=>e=.returned (.bool true)/\w=w')
 (hS:∀ w,Calls Tryz.prog 170 #[.agg #[.int .i64 b,.int .i64 st,.int .i64 tg,.int .i64 cu,.int .i64 io,.int .i64 ba,.int .i64 t0,.int .i64 t1,.int .i64 t2,.int .i64 t3,.int .i64 t4,.int .i64 t5]] w fun e w'=>e=.returned (.bool true)/\Below w.heap.size w w'):
 Calls Tryz.prog 132 #[.agg #[.int .i64 b,.int .i64 st,.int .i64 tg,.int .i64 cu,.int .i64 io,.int .i64 ba,.int .i64 t0,.int .i64 t1,.int .i64 t2,.int .i64 t3,.int .i64 t4,.int .i64 t5]] w fun e w'=>e=.returned (.bool (Zid L))/\Below w.heap.size w w':=by
 have hob:=Zaa w (supO L 143);have hh:=heap_alloc_new w (supO L 143);obtain⟨W1,hW1⟩:∃ W1,W1=w.alloc (supO L 143):=⟨_,rfl⟩;rw[<- hW1] at hob hh;have hW2:w.alloc (.cells #[.int .i64 b,.int .i64 st,.int .i64 tg,.int .i64 cu,.int .i64 io,.int .i64 ba,.int .i64 t0,.int .i64 t1,.int .i64 t2,.int .i64 t3,.int .i64 t4,.int .i64 t5] 143)=W1:=by rw[hW1,hLL];rfl
 have eb:num L 0=b:=by rw[hLL];rfl
 have hlen:L.length=12:=by rw[hLL];rfl
 have H2:=hid hW2;have HH:=hid hh;have HL:=hid hLL;have HLE:=hid hlen;have HTO:=hid hT;have K0:=hid hF;have K1:=hid hS;clear hF hS hh hW1 hW2 hT hLL hlen;go_enter Tryz.func132,Tryz.ntmps132
 go_wp2_with (first
  |(go_at_call 50;with_reducible refine(K0.out _).mono ?_;rintro e w' ⟨rfl,rfl⟩)
  |(go_at_call 170;rw[H2.out];refine(K1.out _).mono ?_;rintro e w2 ⟨rfl,hb2⟩))
 have hbe:Below w.heap.size w w2:=hob.trans (hb2.mono hob.size);have hh2:w2.heap[w.heap.size]? =some (supO L 143):=(hb2.block _ (Array.getElem?_eq_some_iff.1 HH.out).1).trans HH.out;have hcel:=fun k hk=>Zgt hh2 k hk
 rw[HLE.out] at hcel;have HC:=hid hcel;clear hcel hh2 hb2;go_loopw [14] (fun i wr=>∃ j:Nat,j<=6/\i=.int .i64 j/\Hid (frmTo L j=true)/\Below w.heap.size w wr/\Hid (∀ k,k<12->wr.cell? ⟨w.heap.size,k,none⟩=some (.int .i64 (num L k)))) (fun i _=>6-(intOf i).toNat)
 case atStart=>exact⟨0,by omega,rfl,rfl,hbe,HC⟩
 case round=>
  clear HC hbe;obtain⟨j,hj,rfl,HF,hbe,HC⟩:=hrel;by_cases hlt:j<6
  . have hcx:=HC.out (6+j) (by omega)
    have hxm:=HTO.out (6+j);have hcb:=HC.out 0 (by omega);rw[eb] at hcb;obtain⟨x,hx⟩:∃ x,x=num L (6+j):=⟨_,rfl⟩;rw[<- hx] at hcx hxm;have HX:=hid hx;clear hx;have hno:¬ okTS L j->Zid L=false:=fun h=>by
     cases hf:Zid L
     . rfl
     . exact absurd (frm_tab hf j hlt) h
    have HNO:=hid hno;clear hno;have ej:(j:Int)<6:=by omega
    rcases h1:decide (x<0) with _|_
    . have HH1:=hid (of_decide_eq_false h1)
      rcases h2:decide (b<=x) with _|_
      . have HH2:=hid (of_decide_eq_false h2)
        rcases h3:fixB x with _|_
        . have K2:=hid (Zjs x hxm false h3)
          have HH3:=hid h3;clear h3;go_wp2;go_quiet ((go_at_call 51;exact Zai (K2.out _)))
          go_wp2;clear h1 h2 hcb;go_loopw [39] (fun i wr=>∃ k:Nat,k<=j/\i=.int .i64 k/\Hid (∀ m,m<k->num L (6+m)≠num L (6+j))/\Below w.heap.size w wr/\Hid (∀ k,k<12->wr.cell? ⟨w.heap.size,k,none⟩=some (.int .i64 (num L k)))) (fun i _=>j-(intOf i).toNat)
          case atStart=>exact⟨0,by omega,rfl,fun m hm=>absurd hm (Nat.not_lt_zero _),Zab hbe _,fun k hk=>HC.out k hk⟩
          case round=>
           clear HC hbe hcx;obtain⟨k,hk,rfl,HK,hbe,HC⟩:=hrel;by_cases hlk:k<j
           . have hck:=HC.out (6+k) (by omega)
             have hcx:wr.cell? ⟨w.heap.size,6+j,none⟩=some (.int .i64 x):=by rw[HX.out];exact HC.out (6+j) (by omega)
             obtain⟨y,hy⟩:∃ y,y=num L (6+k):=⟨_,rfl⟩;rw[<- hy] at hck;have HY:=hid hy;clear hy;have elk:(k:Int)<(j:Int):=by omega
             have ek:(k:Int)<6:=by omega
             rcases h3:(y==x) with _|_
             . go_wp2
               go_quiet (fail)
               go_wp2;go_roundw
               case rel=>
                refine⟨k+1,by omega,by go_num,fun m hm=>?_,Zab hbe _,fun k hk=>HC.out k hk⟩;by_cases e:m=k
                . subst e;rw[<- HY.out,<- HX.out];intro e;rw[e] at h3;simp at h3
                . exact HK.out m (by omega)
               case measure=>simp[intOf];omega
             . have hr:=HNO.out (fun h=>h.2.2 k hlk (by rw[<- HY.out,<- HX.out];simpa using h3))
               go_wp2;go_quiet (fail)
               go_wp2;go_ret;exact⟨by first|rfl|(rw [hr];rfl),Zab hbe _⟩
           . go_wp2
             go_roundw
             case rel=>
              obtain rfl:k=j:=by omega
              refine⟨k+1,by omega,by go_num,?_,hbe,HC⟩;show frmTo L (k+1)=true
              exact frmTo_succ HF.out ⟨⟨by rw[<- HX.out];have:=HH1.out;omega,by rw[<- HX.out,eb];have:=HH2.out;omega⟩,by rw[<- HX.out];exact HH3.out,HK.out⟩
             case measure=>simp[intOf];omega
        . have hr:=HNO.out (fun h=>by have:=h.2.1;rw[<- HX.out,h3] at this;cases this)
          have K2:=hid (Zjs x hxm true h3);clear h3;go_wp2;go_quiet ((go_at_call 51;exact Zai (K2.out _)))
          go_wp2;go_ret;exact⟨by first|rfl|(rw [hr];rfl),Zab hbe _⟩
      . have hr:=HNO.out (fun h=>by have:=h.1.2;rw[<- HX.out,eb] at this;have:=of_decide_eq_true h2;omega)
        have g2:b<=x:=of_decide_eq_true h2;go_wp2;go_quiet (fail)
        go_wp2;go_ret;exact⟨by first|rfl|(rw [hr];rfl),Zab hbe _⟩
    . have hr:=HNO.out (fun h=>by have:=h.1.1;rw[<- HX.out] at this;have:=of_decide_eq_true h1;omega)
      have g1:x<0:=of_decide_eq_true h1;go_wp2;go_quiet (fail)
      go_wp2;go_ret;exact⟨by first|rfl|(rw [hr];rfl),Zab hbe _⟩
  . go_wp2
    go_ret;obtain rfl:j=6:=by omega
    exact⟨by rw[Zid,HF.out];rfl,hbe⟩
theorem rFormS_of{L:List Int}(hL:L.length=12)(hT:Top L)(w:World):
 Calls Tryz.prog 132 #[supV L] w fun e w'=>e=.returned (.bool (frmS L))/\Below w.heap.size w w':=by
 have h0:frmB (num L 0)=false\/frmB (num L 0)=true:=by cases frmB (num L 0) <;> simp
 have h1:Zhk L=false\/Zhk L=true:=by cases Zhk L <;> simp
 have hm:=hT 0;have hT':=hT;have KF:∀ B,frmB (num L 0)=B->_:=fun B h=>Zga (num L 0) hm B h
 have KS:∀ (hb:frmB (num L 0)=true) B,Zhk L=B->_:=fun hb B h=>rStates_is hL hT hb B h
 have hr:frmS L=(frmB (num L 0) && (Zhk L && Zid L)):=rfl;have hob:=Zaa w (supO L 143);obtain⟨W1,hW1⟩:∃ W1,W1=w.alloc (supO L 143):=⟨_,rfl⟩;rw[<- hW1] at hob
 match L,hL with
 |[b,st,tg,cu,io,ba,t0,t1,t2,t3,t4,t5],_=>
  have hW2:w.alloc (.cells #[.int .i64 b,.int .i64 st,.int .i64 tg,.int .i64 cu,.int .i64 io,.int .i64 ba,.int .i64 t0,.int .i64 t1,.int .i64 t2,.int .i64 t3,.int .i64 t4,.int .i64 t5] 143)=W1:=by
   rw[hW1];rfl
  have H2:=hid hW2;show Calls Tryz.prog 132 #[.agg #[.int .i64 b,.int .i64 st,.int .i64 tg,.int .i64 cu,.int .i64 io,.int .i64 ba,.int .i64 t0,.int .i64 t1,.int .i64 t2,.int .i64 t3,.int .i64 t4,.int .i64 t5]] w fun e w'=>e=.returned (.bool (frmS _))/\Below w.heap.size w w'
  rw[hr];change _<=_ at hm;rcases h0 with h0|h0
  . rw[h0]
    have K0:Hid (∀ w,Calls Tryz.prog 50 #[.int .i64 b] w fun e w'=>e=.returned (.bool false)/\w=w'):=hid (KF _ h0);clear KF KS hr h0 h1 hW1 hW2 hT hm hT';go_enter Tryz.func132,Tryz.ntmps132;go_wp2_with (first|(go_at_call 50;with_reducible refine(K0.out _).mono ?_;rintro e w' ⟨rfl,rfl⟩))
    go_ret;exact⟨rfl,Zaa _ _⟩
  . rw[h0,Bool.true_and]
    have K0:Hid (∀ w,Calls Tryz.prog 50 #[.int .i64 b] w fun e w'=>e=.returned (.bool true)/\w=w'):=hid (KF _ h0);rcases h1 with h1|h1
    . rw[h1,Bool.false_and]
      have K1:Hid (∀ w,Calls Tryz.prog 170 #[.agg #[.int .i64 b,.int .i64 st,.int .i64 tg,.int .i64 cu,.int .i64 io,.int .i64 ba,.int .i64 t0,.int .i64 t1,.int .i64 t2,.int .i64 t3,.int .i64 t4,.int .i64 t5]] w fun e w'=>e=.returned (.bool false)/\Below w.heap.size w w'):=hid (KS h0 _ h1);clear KF KS hr h0 h1 hW1 hW2 hT hm hT';go_enter Tryz.func132,Tryz.ntmps132
      go_wp2_with (first
       |(go_at_call 50;with_reducible refine(K0.out _).mono ?_;rintro e w' ⟨rfl,rfl⟩)
       |(go_at_call 170;rw[H2.out];refine(K1.out _).mono ?_;rintro e w2 ⟨rfl,hb2⟩))
      go_ret;exact⟨rfl,hob.trans (hb2.mono hob.size)⟩
    . rw[h1,Bool.true_and]
      have K1:Hid (∀ w,Calls Tryz.prog 170 #[.agg #[.int .i64 b,.int .i64 st,.int .i64 tg,.int .i64 cu,.int .i64 io,.int .i64 ba,.int .i64 t0,.int .i64 t1,.int .i64 t2,.int .i64 t3,.int .i64 t4,.int .i64 t5]] w fun e w'=>e=.returned (.bool true)/\Below w.heap.size w w'):=hid (KS h0 _ h1);exact rLoop_of b st tg cu io ba t0 t1 t2 t3 t4 t5 _ rfl hT' (Zbr h0).2.1 w K0.out K1.out
theorem rFormS_is{L:List Int}(hL:L.length=12)(hT:Top L)(B:Bool)(h:frmS L=B)(w:World):
 Calls Tryz.prog 132 #[supV L] w fun e w'=>e=.returned (.bool B)/\Below w.heap.size w w':=by rw[<- h];exact rFormS_of hL hT w
def EncOut(L:List Int)(w:World)(e:Ending)(w':World):Prop:=
 (frmS L=true/\∃ v,e=.returned (.tuple #[v,.int .i64 0])/\OB w' w.heap.size v (encS L)/\Below w.heap.size w w')\/
 (frmS L=false/\e=.returned (.tuple #[.slice none 0 0,.int .i64 1])/\Below w.heap.size w w')
theorem num_fit{L:List Int}(h:frmS L=true)(j:Nat)(hj:j<12):0<=num L j/\num L j<65536:=by
 have h1:=frm_num h j hj;have:=Zgb (wid_le j).2;have e:(256:Int) ^ 2=65536:=rfl;omega
theorem pos_le:∀ j,pos j<=8+2*j
 |0=>Nat.le_refl _
 |j+1=>by have:=pos_le j;have:=wid_le j;rw[pos];omega
theorem put_con{L:List Int}(j:Nat)(hj:j<12)(x:Int)(hx:x=num L j)(hx0:0<=x/\x<65536)(k:Nat)(hk:k=wid j)(W:World)(u:Value)(hs:BSl W u (conS L j)):
 Calls Tryz.prog 177 #[u,.int .u64 x,.int .i64 (k:Int)] W (NewB W (conS L (j+1))):=by
 have h1:=wid_le j;have h2:=pos_le j;have h3:=Zce L j;rw[conS,<- hx,<- hk];exact Zfq hs (by omega) x k k (by omega) (by omega) rfl hx0.1 (by omega)
theorem rput_con{L:List Int}(j:Nat)(hj:j<12)(x:Int)(hx:x=num L j)(hx0:0<=x/\x<65536)(k:Nat)(hk:k=wid j)(W:World)(u:Value)(hs:BSl W u (conS L j)):
 Calls Tryz.prog 127 #[u,.int .u64 x,.int .i64 (k:Int)] W (NewB W (conS L (j+1))):=by
 have h1:=wid_le j;have h2:=pos_le j;have h3:=Zce L j;rw[conS,<- hx,<- hk];exact Zhx hs (by omega) x k k (by omega) (by omega) rfl hx0.1 (by omega)
theorem bsl_magic(w2:World):BSl (w2.alloc (.cells #[.int .u8 97,.int .u8 115,.int .u8 104,.int .u8 108,.int .u8 97,.int .u8 114,.int .u8 32,.int .u8 49] 5 (8,9))) (.slice (some ⟨w2.heap.size,0,none⟩) 8 8) magicB:=by
 refine⟨Zax byt_magic,.inr ⟨_,8,rfl,by decide,fun j hj=>⟨by simp,rfl,?_⟩⟩⟩;have hj:j<8:=hj;have hh:(w2.alloc (.cells #[.int .u8 97,.int .u8 115,.int .u8 104,.int .u8 108,.int .u8 97,.int .u8 114,.int .u8 32,.int .u8 49] 5 (8,9))).heap[w2.heap.size]? =some (.cells #[.int .u8 97,.int .u8 115,.int .u8 104,.int .u8 108,.int .u8 97,.int .u8 114,.int .u8 32,.int .u8 49] 5 (8,9)):=by
  show(w2.heap.push _)[w2.heap.size]? =_
  simp
 rw[Nat.zero_add,cell_of_row _ _ _ _ _ _ hh];have:j=0\/j=1\/j=2\/j=3\/j=4\/j=5\/j=6\/j=7:=by omega
 rcases this with rfl|rfl|rfl|rfl|rfl|rfl|rfl|rfl <;> rfl
theorem sEnc_yes(b st tg cu io ba t0 t1 t2 t3 t4 t5:Int)(L:List Int)(hLL:L=[b,st,tg,cu,io,ba,t0,t1,t2,t3,t4,t5])(hf:frmS L=true)(w:World)
 (hF:∀ w,Calls Tryz.prog 188 #[.agg #[.int .i64 b,.int .i64 st,.int .i64 tg,.int .i64 cu,.int .i64 io,.int .i64 ba,.int .i64 t0,.int .i64 t1,.int .i64 t2,.int .i64 t3,.int .i64 t4,.int .i64 t5]] w fun e w'=>e=.returned (.bool true)/\Below w.heap.size w w'):
 Calls Tryz.prog 152 #[.agg #[.int .i64 b,.int .i64 st,.int .i64 tg,.int .i64 cu,.int .i64 io,.int .i64 ba,.int .i64 t0,.int .i64 t1,.int .i64 t2,.int .i64 t3,.int .i64 t4,.int .i64 t5]] w fun e w'=>∃ v,e=.returned (.tuple #[v,.int .i64 0])/\OB w' w.heap.size v (encS L)/\Below w.heap.size w w':=by
 have hob:=Zaa w (supO L 118);have hh:=heap_alloc_new w (supO L 118);obtain⟨W1,hW1⟩:∃ W1,W1=w.alloc (supO L 118):=⟨_,rfl⟩;rw[<- hW1] at hob hh;have hW2:w.alloc (.cells #[.int .i64 b,.int .i64 st,.int .i64 tg,.int .i64 cu,.int .i64 io,.int .i64 ba,.int .i64 t0,.int .i64 t1,.int .i64 t2,.int .i64 t3,.int .i64 t4,.int .i64 t5] 118)=W1:=by rw[hW1,hLL];rfl
 have hlen:L.length=12:=by rw[hLL];rfl
 have hsz:w.heap.size<W1.heap.size:=by rw[hW1];simp
 have H2:=hid hW2;have HH:=hid hh;have HLE:=hid hlen;have HFR:=hid hf;have K0:=hid hF;clear hF hh hW1 hW2 hLL hlen hf;have kc:=fun(w:World) (C:Array Value) (n c:Nat)=>Lib.run_convert_bytes_const (P:=Tryz.prog) w 30 5 C n c Tryz.underlying30 Tryz.underlying5
 go_enter Tryz.func152,Tryz.ntmps152
 go_wp2_with (first
  |(go_at_call 188;rw[H2.out];refine(K0.out _).mono ?_;rintro e w2 ⟨rfl,hb2⟩;have hbe:Below w.heap.size w w2:=hob.trans (hb2.mono hob.size))
  |(go_at_call 187;refine(sFields_of _ _).mono ?_;rintro e w4 ⟨v4,rfl,hf4,hb4⟩;obtain⟨gf,cap,rfl,hgf,hgB,hnc,hcf⟩:=hf4.shape (by decide)))
 have hbm:=bsl_magic w2;obtain⟨w3,hw3⟩:∃ w3,w3=w2.alloc (.cells #[.int .u8 97,.int .u8 115,.int .u8 104,.int .u8 108,.int .u8 97,.int .u8 114,.int .u8 32,.int .u8 49] 5 (8,9)):=⟨_,rfl⟩;rw[<- hw3] at hb4 hbm;have hb3:Below w2.heap.size w2 w3:=by rw[hw3];exact Zaa _ _
 have hb24:Below w2.heap.size w2 w4:=hb3.trans (hb4.mono hb3.size);have hb04:Below w.heap.size w w4:=hbe.trans (hb24.mono hbe.size);have hlt2:w.heap.size<w2.heap.size:=Nat.lt_of_lt_of_le hsz hb2.size;have hh4:w4.heap[w.heap.size]? =some (supO L 118):=by
  rw[hb24.block _ hlt2,hb2.block _ hsz];exact HH.out
 have hc4:=fun k hk=>Zgt hh4 k hk
 rw[HLE.out] at hc4;have hlt4:w.heap.size<w4.heap.size:=Nat.lt_of_lt_of_le hlt2 hb24.size;have hm4:=hbm.below hb4;have HC:=hid hc4;have HCF:=hid hcf;have HB04:=hid hb04;clear hbm hw3 hb3 hb24 hh4 hc4 hcf hb4 hf4 hb2 hbe hob hlt2 hsz kc hb04;go_loopw [4,14] (fun u i wr=>∃ j:Nat,j<=12/\i=.int .i64 j/\Hid (BSl wr u (conS L j))/\Hid (Below w4.heap.size w4 wr)) (fun _ i _=>12-(intOf i).toNat)
 case atStart=>exact⟨0,by omega,rfl,hm4,Below.refl _ _⟩
 case round=>
  obtain⟨j,hj,rfl,HBS,HBR⟩:=hrel;clear hm4;by_cases hlt:j<12
  . have hf:=HCF.out j hlt
    have hf1:wr.cell? ⟨gf,j*2,none⟩=some (.pointer (some ⟨w.heap.size,j,none⟩)):=by rw[HBR.out.cell hgf];exact hf.1
    have hf2:wr.cell? ⟨gf,j*2+1,none⟩=some (.int .i64 (wid j:Int)):=by rw[HBR.out.cell hgf];exact hf.2
    have hx0:=num_fit HFR.out j hlt;obtain⟨x,hx⟩:∃ x,x=num L j:=⟨_,rfl⟩;have hcx:wr.cell? ⟨w.heap.size,j,none⟩=some (.int .i64 x):=by rw[HBR.out.cell hlt4,hx];exact HC.out j hlt
    rw[<- hx] at hx0;have hwd:=wid_le j;obtain⟨k,hk⟩:∃ k,k=wid j:=⟨_,rfl⟩;rw[<- hk] at hwd hf2;have HX:=hid hx;have HK:=hid hk;have ej:(j:Int)<12:=by omega
    have HPU:=hid (put_con (L:=L) j hlt x hx hx0 k hk);clear hx hk hf;have hgw:w.heap.size<wr.heap.size:=Nat.lt_of_lt_of_le hlt4 HBR.out.size;go_wp2;have hbx:=Zaa wr (.cells #[.pointer (some ⟨w.heap.size,j,none⟩),.int .i64 (k:Int)] 253);have hhx:=heap_alloc_new wr (.cells #[.pointer (some ⟨w.heap.size,j,none⟩),.int .i64 (k:Int)] 253);generalize wr.alloc (.cells #[.pointer (some ⟨w.heap.size,j,none⟩),.int .i64 (k:Int)] 253)=W5 at hbx hhx |-
    have c0:W5.cell? ⟨wr.heap.size,0,none⟩=some (.pointer (some ⟨w.heap.size,j,none⟩)):=by rw[cell_of_row _ _ _ _ _ _ hhx];rfl
    have c1:W5.cell? ⟨wr.heap.size,1,none⟩=some (.int .i64 (k:Int)):=by rw[cell_of_row _ _ _ _ _ _ hhx];rfl
    have c2:W5.cell? ⟨w.heap.size,j,none⟩=some (.int .i64 x):=by rw[hbx.cell hgw];exact hcx
    have HBX:=hid (Zab hbx 1);have HU:=hid (HBS.out.below HBX.out);change Hid (BSl W5.drew _ _) at HU;change Hid (Below wr.heap.size wr W5.drew) at HBX;clear hbx hhx hcx hf1 hf2 hgw;go_still_tail 8,(by kernel_rfl)
    go_wp2_with (go_at_call 177;refine(HPU.out _ _ HU.out).mono ?_;rintro e w6 ⟨v6,rfl,hob6,hb6⟩)
    have HB6:=hid (HBX.out.trans (hb6.mono HBX.out.size));clear hb6;go_roundw
    case rel=>exact⟨j+1,by omega,by go_num,hob6.bsl,HBR.out.trans (HB6.out.mono HBR.out.size)⟩
    case measure=>simp[intOf];omega
  . obtain rfl:j=12:=by omega
    have HSE:=hid (Zju HBS.out (by rw[Zce];decide));go_wp2_with (go_at_call 184;refine HSE.out.mono ?_;rintro e w7 ⟨v7,rfl,hob7,hb7⟩)
    go_ret2;have hB:=HB04.out.trans (HBR.out.mono HB04.out.size);exact⟨v7,rfl,hob7.more hB.size,hB.trans (hb7.mono hB.size)⟩
theorem sEnc_of{L:List Int}(hL:L.length=12)(hT:Top L)(w:World):Calls Tryz.prog 152 #[supV L] w (EncOut L w):=by
 have h0:frmS L=false\/frmS L=true:=by cases frmS L <;> simp
 have KF:∀ B,frmS L=B->_:=fun B h=>sFormed_is hL hT B h
 have hob:=Zaa w (supO L 118);obtain⟨W1,hW1⟩:∃ W1,W1=w.alloc (supO L 118):=⟨_,rfl⟩;rw[<- hW1] at hob
 match L,hL with
 |[b,st,tg,cu,io,ba,t0,t1,t2,t3,t4,t5],_=>
  have hW2:w.alloc (.cells #[.int .i64 b,.int .i64 st,.int .i64 tg,.int .i64 cu,.int .i64 io,.int .i64 ba,.int .i64 t0,.int .i64 t1,.int .i64 t2,.int .i64 t3,.int .i64 t4,.int .i64 t5] 118)=W1:=by rw[hW1];rfl
  have H2:=hid hW2;show Calls Tryz.prog 152 #[.agg #[.int .i64 b,.int .i64 st,.int .i64 tg,.int .i64 cu,.int .i64 io,.int .i64 ba,.int .i64 t0,.int .i64 t1,.int .i64 t2,.int .i64 t3,.int .i64 t4,.int .i64 t5]] w (EncOut _ w)
  rcases h0 with h0|h0
  . refine Calls.mono ?_ fun e w' h=>.inr ⟨h0,h⟩
    have K0:Hid (∀ w,Calls Tryz.prog 188 #[.agg #[.int .i64 b,.int .i64 st,.int .i64 tg,.int .i64 cu,.int .i64 io,.int .i64 ba,.int .i64 t0,.int .i64 t1,.int .i64 t2,.int .i64 t3,.int .i64 t4,.int .i64 t5]] w fun e w'=>e=.returned (.bool false)/\Below w.heap.size w w'):=hid (KF _ h0);clear KF h0 hW1 hW2 hT;go_enter Tryz.func152,Tryz.ntmps152;go_wp2_with (first|(go_at_call 188;rw[H2.out];refine(K0.out _).mono ?_;rintro e w2 ⟨rfl,hb2⟩))
    go_ret2;exact⟨rfl,hob.trans (hb2.mono hob.size)⟩
  . refine Calls.mono ?_ fun e w' h=>.inl ⟨h0,h⟩
    exact sEnc_yes b st tg cu io ba t0 t1 t2 t3 t4 t5 _ rfl h0 w (KF _ h0)
def Kept(w w':World)(g:Nat):Prop:=w'.os=w.os/\w'.tape=w.tape/\w'.output=w.output/\w.heap.size<=w'.heap.size/\∀ k,k<w.heap.size->k≠g->w'.heap[k]? =w.heap[k]?
theorem Kept.refl(w:World)(g:Nat):Kept w w g:=⟨rfl,rfl,rfl,Nat.le_refl _,fun _ _ _=>rfl⟩
theorem Kept.then{w w' w'':World}{g:Nat}(h:Kept w w' g)(hb:Below w'.heap.size w' w''):Kept w w'' g:=
 ⟨hb.os.trans h.1,hb.tape.trans h.2.1,hb.output.trans h.2.2.1,Nat.le_trans h.2.2.2.1 hb.size,fun k hk hne=>by rw[hb.block k (Nat.lt_of_lt_of_le hk h.2.2.2.1)];exact h.2.2.2.2 k hk hne⟩
theorem Kept.wrote{w w' w'':World}{g:Nat}(h:Kept w w' g)(hb:Wrote w' w'' g):Kept w w'' g:=
 ⟨hb.1.trans h.1,hb.2.1.trans h.2.1,hb.2.2.1.trans h.2.2.1,by rw[hb.2.2.2.1];exact h.2.2.2.1,fun k hk hne=>by rw[hb.2.2.2.2 k hne];exact h.2.2.2.2 k hk hne⟩
theorem Kept.below{w w':World}{g B:Nat}(h:Kept w w' g)(hB:B<=g)(hw:B<=w.heap.size):Below B w w':=
 ⟨h.1,h.2.1,h.2.2.1,h.2.2.2.1,fun k hk=>h.2.2.2.2 k (Nat.lt_of_lt_of_le hk hw) (by omega)⟩
theorem Kept.cell{w w':World}{g:Nat}(h:Kept w w' g){b o:Nat}(hb:b<w.heap.size)(hne:b≠g):w'.cell? ⟨b,o,none⟩=w.cell? ⟨b,o,none⟩:=by
 simp only[World.cell?];rw[h.2.2.2.2 b hb hne]
def rdTo(c:List Int)(j:Nat):List Int:=(List.range 12).map fun i=>if i<j then getV c (pos i) (wid i) else 0
theorem Zes(c:List Int)(j:Nat):(rdTo c j).length=12:=by simp[rdTo]
theorem rdTo_set(c:List Int)(j:Nat)(hj:j<12):(rdTo c j).set j (getV c (pos j) (wid j))=rdTo c (j+1):=by
 apply List.ext_getElem (by rw[List.length_set,Zes,Zes]);intro i h1 h2;simp only[rdTo,List.getElem_set,List.getElem_map,List.getElem_range];by_cases e:j=i
 . subst e;rw[if_pos rfl,if_pos (by omega)]
 . rw[if_neg e]
   by_cases h:i<j
   . rw[if_pos h,if_pos (by omega)]
   . rw[if_neg h,if_neg (by omega)]
theorem rdTo_full(c:List Int):rdTo c 12=rdS c:=by
 unfold rdTo rdS;apply List.map_congr_left;intro i hi;rw[if_pos (List.mem_range.1 hi)]
theorem supO_set{W:World}{g:Nat}{L:List Int}{T:TypeId}(h:W.heap[g]? =some (supO L T))(j:Nat)(y:Int):(W.setCell ⟨g,j,none⟩ (.int .i64 y)).heap[g]? =some (supO (L.set j y) T):=by
 rw[heap_setCell_same W g j _ _ _ h];simp[supO]
theorem pos_in(j:Nat)(hj:j<12):pos j+wid j<=252:=by
 have:∀ i,i<=12->pos i<=8+2*i:=fun i _=>by
  induction i with
  |zero=>exact Nat.le_refl _
  |succ i ih=>have:=ih (by omega);rw[pos];unfold wid;split <;> omega
 have:=this (j+1) (by omega);rw[pos] at this;omega
theorem getN_pos{c:List Int}(hc:c.length=252)(j:Nat)(hj:j<12)(k:Nat)(hk:k=wid j):getN c (pos j:Int) (k:Int)=getV c (pos j) (wid j):=by
 have:=pos_in j hj;have h1:1<=wid j/\wid j<=2:=by unfold wid;split <;> omega
 unfold getN;rw[if_pos (by omega),hk];rfl
theorem getV_fit{c:List Int}(hb:Byt c)(j:Nat):0<=getV c (pos j) (wid j)/\getV c (pos j) (wid j)<65536:=by
 have h:=Zcz (Zbo hb) (pos j) (wid j);have h1:1<=wid j/\wid j<=2:=by unfold wid;split <;> omega
 have:=Zgb h1.2;have e:(256:Int) ^ 2=65536:=rfl;omega
theorem infoS:(Tryz.prog.info? 118).map (·.size)=some 12:=by kernel_rfl
theorem Zcu{ops:Array Oper}{rest:List Oper}{o:Oper}{a:Act}{w:World}{Q:Exit->Act->World->Prop}(hgd:o.guard=none)(x:Operand)(ho:o.op=.load 118 x)
 (g:Nat) (hx:a.eval x=.pointer (some ⟨g,0,none⟩)) (L:List Int) (hL:L.length=12) (T:TypeId) (hg:w.heap[g]? =some (supO L T)) (h:wpList Tryz.prog ops Q rest (a.put o.dst (supV L)) w):wpList Tryz.prog ops Q (o :: rest) a w:=
 wpList_load_row hgd 118 x ho g hx T _ (0,0) _ hg Tryz.underlying118 rfl (by rw[infoS];simp[hL]) h
theorem ints_one(L:List Int):(L.map (Value.int .i64)).toArray.all (·.oneCell')=true:=by
 rw[Array.all_eq_true'];intro v hv;simp at hv;obtain⟨x,_,rfl⟩:=hv;rfl
theorem Zaq{ops:Array Oper}{rest:List Oper}{o:Oper}{a:Act}{w:World}{Q:Exit->Act->World->Prop}(hgd:o.guard=none)(x y:Operand)(ho:o.op=.store 118 x y)
 (g:Nat) (hx:a.eval x=.pointer (some ⟨g,0,none⟩)) (L M:List Int) (hy:a.eval y=supV L) (hL:L.length=12) (hM:M.length=12) (T:TypeId) (hg:w.heap[g]? =some (supO M T))
 (h:∀ w',Wrote w w' g->w'.heap[g]? =some (supO L T)->wpList Tryz.prog ops Q rest (a.put o.dst undef) w'):wpList Tryz.prog ops Q (o :: rest) a w:=
 wpList_store_row hgd 118 x y ho g _ hx hy T _ hg (by rw[infoS];simp[hL]) (by simp[hL,hM]) (ints_one L) (h _ (Wrote.setRow _ _ _) (setRow_heap _ _ _ _ _ _ hg))
theorem ret_sup{fn:Func}{p:Tmp}(h:fn.results=#[.cell p 118])(tmps:Array Value)(w:World)(g:Nat)(T:TypeId)(L:List Int)(hL:L.length=12)(hp:tmps.getD p undef=.pointer (some ⟨g,0,none⟩))(hg:w.heap[g]? =some (supO L T)):
 (results fn tmps).run Tryz.prog w=.ok (supV L) w:=
 results_cell_row h tmps w g T _ (0,0) _ hp hg Tryz.underlying118 rfl (by rw[infoS];simp[hL])
theorem sRead_of{w:World}{v:Value}{c:List Int}(hs:BSl w v c)(hc:c.length=252):Calls Tryz.prog 151 #[v] w fun e w'=>e=.returned (supV (rdS c))/\Below w.heap.size w w':=by
 have HS:=hid hs;have HCL:=hid hc;clear hs hc;have hw2:∃ w2,w2=(w.alloc (supO (rdTo c 0) 118)).alloc (supO (rdTo c 0) 118):=⟨_,rfl⟩;obtain⟨w2,hw2⟩:=hw2;have h2:(w.alloc (.cells #[.int .i64 0,.int .i64 0,.int .i64 0,.int .i64 0,.int .i64 0,.int .i64 0,.int .i64 0,.int .i64 0,.int .i64 0,.int .i64 0,.int .i64 0,.int .i64 0] 118)).alloc (.cells #[.int .i64 0,.int .i64 0,.int .i64 0,.int .i64 0,.int .i64 0,.int .i64 0,.int .i64 0,.int .i64 0,.int .i64 0,.int .i64 0,.int .i64 0,.int .i64 0] 118)=w2:=by rw[hw2];rfl
 have hb2:Below w.heap.size w w2:=by rw[hw2];exact((Below.refl _ _).alloc (Nat.le_refl _) _).alloc (by simp) _
 have hr0:w2.heap[w.heap.size]? =some (supO (rdTo c 0) 118):=by rw[hw2,@heap_alloc_old _ _ _ (by simp)];exact heap_alloc_new _ _
 have hr1:w2.heap[w.heap.size+1]? =some (supO (rdTo c 0) 118):=by rw[hw2];exact heap_alloc2_new _ _ _
 have hz2:w2.heap.size=w.heap.size+2:=by rw[hw2];simp
 have H2:=hid h2;have HR0:=hid hr0;have HR1:=hid hr1;clear h2 hw2 hr0 hr1;go_enter Tryz.func151,Tryz.ntmps151
 go_wp2_with (first
  |(go_at_call 187;rw[H2.out];refine(sFields_of _ _).mono ?_;rintro e w4 ⟨v4,rfl,hf4,hb4⟩;obtain⟨gf,cap,rfl,hgf,hgB,hnc,hcf⟩:=hf4.shape (by decide)))
 obtain⟨gs,hgs⟩:∃ gs,gs=w.heap.size+1:=⟨_,rfl⟩;have hgs4:w4.heap[gs]? =some (supO (rdTo c 0) 118):=by rw[hgs,hb4.block _ (by omega)];exact HR1.out
 have hgr4:w4.heap[w.heap.size]? =some (supO (rdTo c 0) 118):=by rw[hb4.block _ (by omega)];exact HR0.out
 have hb04:Below w.heap.size w w4:=hb2.trans (hb4.mono (by omega));have hgsl:gs<w4.heap.size:=(Array.getElem?_eq_some_iff.1 hgs4).1;have hgfs:gf≠gs:=by omega
 have hwl:w.heap.size<w4.heap.size:=by omega
 rw[<- hgs] at hcf |-
 have HG:=hid hgs;have HCF:=hid hcf;have HB04:=hid hb04;have HGR:=hid hgr4;clear hgs hcf hb04 hgr4 hb4 hf4 hz2 hb2 hnc hgB;go_loopw [4,11] (fun at_ i wr=>∃ j:Nat,j<=12/\i=.int .i64 j/\at_=.int .i64 (pos j:Int)/\Hid (wr.heap[gs]? =some (supO (rdTo c j) 118))/\Hid (Kept w4 wr gs)) (fun _ i _=>12-(intOf i).toNat)
 case atStart=>exact⟨0,by omega,rfl,rfl,hgs4,Kept.refl _ _⟩
 case round=>
  obtain⟨j,hj,rfl,rfl,HRW,HKP⟩:=hrel;clear hgs4;by_cases hlt:j<12
  . have hf:=HCF.out j hlt
    have hf1:wr.cell? ⟨gf,j*2,none⟩=some (.pointer (some ⟨gs,j,none⟩)):=by rw[HKP.out.cell hgf hgfs];exact hf.1
    have hf2:wr.cell? ⟨gf,j*2+1,none⟩=some (.int .i64 (wid j:Int)):=by rw[HKP.out.cell hgf hgfs];exact hf.2
    have hy0:=getV_fit HS.out.1 j;have hwd:1<=wid j/\wid j<=2:=by unfold wid;split <;> omega
    have hps:=pos_in j hlt;have hgn:=getN_pos HCL.out j hlt _ rfl;obtain⟨y,hy⟩:∃ y,y=getV c (pos j) (wid j):=⟨_,rfl⟩;rw[<- hy] at hy0 hgn;have hnx:pos (j+1)=pos j+wid j:=rfl;obtain⟨P,hP⟩:∃ P,P=pos j:=⟨_,rfl⟩;obtain⟨k,hk⟩:∃ k,k=wid j:=⟨_,rfl⟩;have hset:=rdTo_set c j hlt;rw[<- hy] at hset;rw[<- hP] at hps hgn hnx |-
    rw[<- hk] at hwd hps hgn hnx hf2;have HGET:Hid (∀ W,BSl W v c->Calls Tryz.prog 144 #[v,.int .i64 (P:Int),.int .i64 (k:Int)] W fun e w'=>∃ B,e=.returned (.tuple #[.int .u64 y,.bool B])/\W=w'):=hid fun W h=>by
     have:=pGet_any h (by have:=HCL.out;omega) (P:Int) (k:Int) (by omega) (by omega);rw[hgn] at this;exact this.mono fun e w' ⟨h1,h2⟩=>⟨_,h1,h2⟩
    have HSET:=hid hset;have ej:(j:Int)<12:=by omega
    have hgw:gs<wr.heap.size:=Nat.lt_of_lt_of_le hgsl HKP.out.2.2.2.1;have HNX:=hid hnx;have hbw:=HB04.out.trans (HKP.out.below (B:=w.heap.size) (by have:=HG.out;omega) (by omega));have HBW:=hid hbw;clear hy hP hk hset hgn hf hnx hbw;have hwsz:wr.heap.size≠gs:=by omega
    go_wp2_with (first
     |(go_at_call 144
       have hb5:=Zaa wr (.cells #[.pointer (some ⟨gs,j,none⟩),.int .i64 (k:Int)] 253);have hh5:=heap_alloc_new wr (.cells #[.pointer (some ⟨gs,j,none⟩),.int .i64 (k:Int)] 253);generalize wr.alloc (.cells #[.pointer (some ⟨gs,j,none⟩),.int .i64 (k:Int)] 253)=W5 at hb5 hh5 |-
       have hr5:W5.heap[gs]? =some (supO (rdTo c j) 118):=(hb5.block _ hgw).trans HRW.out;have c0:W5.cell? ⟨wr.heap.size,0,none⟩=some (.pointer (some ⟨gs,j,none⟩)):=by rw[cell_of_row _ _ _ _ _ _ hh5];rfl
       have c1:W5.cell? ⟨wr.heap.size,1,none⟩=some (.int .i64 (k:Int)):=by rw[cell_of_row _ _ _ _ _ _ hh5];rfl
       have ck:=Zgt hr5 j (by rw[Zes];exact hlt);have fk:W5.frozen? ⟨gs,j,none⟩=false:=by simp[World.frozen?,hr5,supO]
       have hw6:=Wrote.setCell W5 gs j (.int .i64 y);have c6:(W5.setCell ⟨gs,j,none⟩ (.int .i64 y)).cell? ⟨wr.heap.size,1,none⟩=some (.int .i64 (k:Int)):=by
        simp only[World.cell?];rw[hw6.2.2.2.2 _ hwsz];exact c1
       have hr6:=supO_set hr5 j y;rw[HSET.out] at hr6;have HK6:=hid ((HKP.out.then hb5).wrote hw6);have HR6:=hid hr6;have HB5:=hid (HBW.out.trans (hb5.mono HBW.out.size));clear hb5 hh5 hr5 hr6 hw6 hf1 hf2 hwsz;refine(HGET.out _ (HS.out.below HB5.out)).mono ?_;rintro e w' ⟨B,rfl,rfl⟩))
    go_roundw
    case rel=>exact⟨j+1,by omega,by go_num,by rw[HNX.out];go_num,HR6.out,HK6.out⟩
    case measure=>simp[intOf];omega
  . obtain rfl:j=12:=by omega
    have hgrw:wr.heap[w.heap.size]? =some (supO (rdTo c 0) 118):=by rw[HKP.out.2.2.2.2 _ hwl (by have:=HG.out;omega)];exact HGR.out
    have hlen:=Zes c 12;have hlen0:=Zes c 0;have HBW:=hid (HB04.out.trans (HKP.out.below (B:=w.heap.size) (by have:=HG.out;omega) (by omega)))
    go_wp2_with (first
     |(with_reducible refine Zcu rfl _ rfl gs rfl _ hlen _ HRW.out ?_)
     |(with_reducible refine Zaq rfl _ _ rfl w.heap.size rfl _ _ rfl hlen hlen0 _ hgrw ?_;intro w7 hw7 hr7))
    refine bodyPost_ret (ret_sup rfl _ _ w.heap.size _ _ hlen rfl hr7) rfl ⟨by rw[rdTo_full],HBW.out.trans (hw7.below (Nat.le_refl _) |>.mono (Nat.le_refl _))⟩
end Go.Proofs.YtedabomlfcghoaaGreat
