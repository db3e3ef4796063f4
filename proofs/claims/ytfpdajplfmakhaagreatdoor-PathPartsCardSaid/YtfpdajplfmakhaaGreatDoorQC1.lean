/- What the law rests on. -/
import Derived.WalkKit
import Derived.Laws.BitsAllLaws
import Derived.Test.YtfpdajplfmakhaaGreatDoorRows
import Derived.WalkSpells
import Derived.WalkLawsBesides
import Derived.BigQuiet
import Derived.Lib.Hide
import Derived.Laws.CopyOwn
import Derived.Laws.BytesArg
import Derived.Laws.AppendOwnNone
import Derived.Maps.AppendAt
import Derived.OwnWalk
import Derived.OpenShut
import Derived.SizedLaws
import Derived.Deep.QuietTactic
import Derived.Deep.MidRow
import Derived.Deep.WholeRow
import Derived.Deep.CutRange
import Derived.IntWalk
import Derived.RegionTactic
import Derived.BigRegion
import Derived.Deep.RegionHeld3
import Derived.Laws.ResultCell
import Derived.Laws.Tables
import Derived.Laws.Rows
import Derived.Deep.Slices
import Derived.Deep.Fields
import Derived.ProofKit
open Go.Value renaming int->Y,slice->Ak,pointer->Al,tuple->AH,bool->AP,agg->BN
open Go.IntKind renaming i64->E
open Go.Proofs.Tryz renaming prog->U
open Option renaming none->R,some->V
open Go renaming World->Z,Value->I,Calls->Av,Oper->BE,strOfNums->BX,wpList->Cf,TypeId->Cg
open Go.Ending renaming returned->Aj
open Go.Obj renaming cells->Am
open Go.RowKit renaming Below->Ap
open List renaming replicate->Aw,length_cons->Bm,range->Bu
open Bool renaming false->X,true->AE
open Array renaming replicate->AK
open Or renaming inl->AU,inr->AW
open Int renaming toNat_natCast->Cd
namespace Go.Proofs.YtfpdajplfmakhaaGreatDoor
set_option maxHeartbeats 12000000
set_option linter.unusedVariables false
set_option maxRecDepth 100000
theorem Ah:type_of% @Array.getElem?_eq_some_iff:=@Array.getElem?_eq_some_iff
theorem An:type_of% @List.getD_eq_getElem?_getD:=@List.getD_eq_getElem?_getD
theorem Aq:type_of% @Go.cell_of_row:=@Go.cell_of_row
theorem Ar:type_of% @Go.heap_alloc_new:=@Go.heap_alloc_new
theorem At:type_of% @Nat.le_refl:=@Nat.le_refl
theorem Au:type_of% @if_pos:=@if_pos
theorem Ax:type_of% @if_neg:=@if_neg
theorem Az:type_of% @decide_eq_true:=@decide_eq_true
theorem AA:type_of% @Nat.lt_of_lt_of_le:=@Nat.lt_of_lt_of_le
theorem AB:type_of% @decide_eq_false:=@decide_eq_false
theorem AC:type_of% @Go.RowKit.Below.refl:=@Go.RowKit.Below.refl
theorem AD:type_of% @List.length_append:=@List.length_append
theorem AI:type_of% @Nat.le_trans:=@Nat.le_trans
theorem AJ:type_of% @List.length_take:=@List.length_take
theorem AL:type_of% @List.getElem?_eq_getElem:=@List.getElem?_eq_getElem
theorem AN:type_of% @Go.heap_setCell_other:=@Go.heap_setCell_other
theorem AO:type_of% @List.eq_nil_of_length_eq_zero:=@List.eq_nil_of_length_eq_zero
theorem AQ:type_of% @Bool.and_eq_true:=@Bool.and_eq_true
theorem AR:type_of% @List.take_of_length_le:=@List.take_of_length_le
theorem AX:type_of% @of_decide_eq_true:=@of_decide_eq_true
theorem AY:type_of% @Go.Value.slice.inj:=@Go.Value.slice.inj
theorem AZ:type_of% @List.getElem?_take:=@List.getElem?_take
theorem A2:type_of% @List.getElem?_eq_none:=@List.getElem?_eq_none
theorem A3:type_of% @List.length_replicate:=@List.length_replicate
theorem A4:type_of% @decide_eq_true_eq:=@decide_eq_true_eq
theorem A7:type_of% @List.append_assoc:=@List.append_assoc
theorem A8:type_of% @Go.heap_setCell_same:=@Go.heap_setCell_same
theorem Ba:type_of% @List.length_map:=@List.length_map
theorem Bb:type_of% @List.getElem?_eq_some_iff:=@List.getElem?_eq_some_iff
theorem Bd:type_of% @List.mem_range:=@List.mem_range
theorem Bf:type_of% @Go.info_parts:=@Go.info_parts
theorem Bg:type_of% @List.ext_getElem:=@List.ext_getElem
theorem Bk:type_of% @List.getElem?_drop:=@List.getElem?_drop
theorem Br:type_of% @Nat.zero_add:=@Nat.zero_add
theorem Bt:type_of% @congrArg:=@congrArg
theorem By:type_of% @List.mem_cons_of_mem:=@List.mem_cons_of_mem
theorem Bz:type_of% @List.take_succ_eq_append_getElem:=@List.take_succ_eq_append_getElem
theorem BH:type_of% @List.getElem?_append_left:=@List.getElem?_append_left
theorem BI:type_of% @List.mem_append:=@List.mem_append
theorem BO:type_of% @Go.World.ownsRow.lt:=@Go.World.ownsRow.lt
theorem BP:type_of% @List.take_length:=@List.take_length
theorem BR:type_of% @List.getElem?_append_right:=@List.getElem?_append_right
theorem BS:type_of% @List.eq_of_mem_replicate:=@List.eq_of_mem_replicate
theorem BW:type_of% @List.append_nil:=@List.append_nil
theorem BY:type_of% @Go.Addr.add_lit:=@Go.Addr.add_lit
theorem BZ:type_of% @List.mem_map:=@List.mem_map
theorem B9:type_of% @Go.run_underlying:=@Go.run_underlying
theorem Cp:type_of% @List.map_append:=@List.map_append
theorem Ct:type_of% @Nat.le_of_lt:=@Nat.le_of_lt
theorem Cu:type_of% @List.getElem?_replicate:=@List.getElem?_replicate
theorem Cw:type_of% @List.getElem_of_mem:=@List.getElem_of_mem
theorem CA:type_of% @Go.wpList_plain:=@Go.wpList_plain
theorem CC:type_of% @Go.setRow_heap:=@Go.setRow_heap
theorem CD:type_of% @List.flatMap_cons:=@List.flatMap_cons
theorem CP:type_of% @List.drop_zero:=@List.drop_zero
theorem C0:type_of% @Go.wpList_store_row:=@Go.wpList_store_row
theorem C9:type_of% @Go.World.cell?_alloc_lt:=@Go.World.cell?_alloc_lt
theorem Da:type_of% @beq_iff_eq:=@beq_iff_eq
theorem Dg:type_of% @Go.Sem.run_bind:=@Go.Sem.run_bind
theorem Dn:type_of% @Go.World.ownsRow_nil:=@Go.World.ownsRow_nil
theorem Do:type_of% @List.take_append_of_le_length:=@List.take_append_of_le_length
theorem Dt:type_of% @Nat.add_assoc:=@Nat.add_assoc
theorem Dz:type_of% @List.take_left':=@List.take_left'
theorem DB:type_of% @List.mem_of_mem_take:=@List.mem_of_mem_take
theorem DJ:type_of% @List.take_length_add_append:=@List.take_length_add_append
theorem DO:type_of% @List.map_cons:=@List.map_cons
theorem DQ:type_of% @Int.emod_eq_of_lt:=@Int.emod_eq_of_lt
theorem DR:type_of% @List.getElem?_map:=@List.getElem?_map
theorem DW:type_of% @List.flatMap_append:=@List.flatMap_append
theorem Fc:type_of% @List.map_toArray:=@List.map_toArray
theorem FL:type_of% @Nat.min_eq_left:=@Nat.min_eq_left
theorem FU:type_of% @Go.wpList_append_own:=@Go.wpList_append_own
theorem GX:type_of% @List.range_succ:=@List.range_succ
theorem IJ:type_of% @List.map_nil:=@List.map_nil
theorem IK:type_of% @List.drop_eq_getElem_cons:=@List.drop_eq_getElem_cons
theorem nm{α:Type _}(a:α):∃ x,x=a:=⟨a,rfl⟩
theorem wM{p:Prop}(h:p):RowKit.Hid p:=Lib.hid h
section
open Go
def BT(n:Int)(k:Nat):List Int:=(Bu k).map fun i=>n / 2 ^ (8*i)%256
theorem Bc(n:Int)(k:Nat):(BT n k).length=k:=by simp[BT]
theorem Hf(n:Int)(k:Nat):BT n (k+1)=BT n k ++ [n / 2 ^ (8*k)%256]:=by
 simp[BT,GX]
theorem Hh(n:Int):BT n 0=[]:=rfl
theorem la(n:Int)(k:Nat):∀ x∈BT n k,0<=x/\x<=255:=by
 intro x hx;simp only[BT,BZ,Bd] at hx;obtain⟨i,_,rfl⟩:=hx;have:=Int.emod_nonneg (n / 2 ^ (8*i)) (show(256:Int)≠0 by decide);have:=Int.emod_lt_of_pos (n / 2 ^ (8*i)) (show(0:Int)<256 by decide);omega
theorem kE(n:Int)(j:Nat):n / 2 ^ (8*j) / 2 ^ 8=n / 2 ^ (8*(j+1)):=by
 rw[Int.ediv_ediv_of_nonneg (by exact Int.le_of_lt (Int.pow_pos (by decide))),<- Int.pow_add];rfl
def aq:List Int->Int
 |[]=>0
 |x :: r=>x+256*aq r
theorem jh(l:List Int)(x:Int):aq (l ++ [x])=aq l+x*256 ^ l.length:=by
 induction l with
 |nil=>simp[aq]
 |cons y r ih=>
  simp only[List.cons_append,aq,ih,Bm,Int.pow_succ];rw[Int.mul_add,Int.mul_left_comm 256 x,Int.mul_comm 256 (256 ^ r.length)];omega
def Cl(l:List Int)(at_ size:Nat):Int:=aq ((l.drop at_).take size)
theorem Ss(l:List Int)(a k:Nat)(h:a<l.length):Cl l a (k+1)=l.getD a 0+256*Cl l (a+1) k:=by
 unfold Cl;rw[IK h,List.take_succ_cons,aq];simp[h]
theorem RG(l:List Int)(a:Nat):Cl l a 0=0:=by simp[Cl,aq]
theorem cY(l:List Int)(h:∀ x∈l,0<=x/\x<=255):0<=aq l/\aq l<256 ^ l.length:=by
 induction l with
 |nil=>simp[aq]
 |cons x r ih=>
  have h1:=h x (by simp);have h2:=ih fun y hy=>h y (by simp[hy])
  simp only[aq,Bm,Int.pow_succ];omega
theorem LA(k:Nat):(1:Int)<=256 ^ k:=by
 induction k with
 |zero=>simp
 |succ n ih=>rw[Int.pow_succ];omega
theorem Hm{k m:Nat}(h:k<=m):(256:Int) ^ k<=256 ^ m:=by
 induction m with
 |zero=>obtain rfl:k=0:=by omega
        exact Int.le_refl _
 |succ n ih=>
  by_cases e:k=n+1
  . rw[e];exact Int.le_refl _
  . have:=ih (by omega)
    have:=LA n;rw[Int.pow_succ];omega
theorem EL{l:List Int}(h:∀ x∈l,0<=x/\x<=255)(a k:Nat):0<=Cl l a k/\Cl l a k<256 ^ k:=by
 have hb:=cY ((l.drop a).take k) fun x hx=>h x (List.mem_of_mem_drop (DB hx))
 have hl:((l.drop a).take k).length<=k:=by simp;omega
 have hp:=Hm hl;unfold Cl;omega
theorem rN(a x:Int)(k:Nat)(ha:0<=a)(hx0:0<=x)(hx:x<2 ^ k)(hs:a*2 ^ k<18446744073709551616)(hxs:x<18446744073709551616):
 bits BinOp.or IntKind.u64 (a*2 ^ k) x=a*2 ^ k+x:=by
 obtain⟨m,rfl⟩:∃ m:Nat,a=m:=⟨a.toNat,by omega⟩;obtain⟨y,rfl⟩:∃ y:Nat,x=y:=⟨x.toNat,by omega⟩;have e:(m:Int)*2 ^ k=((m*2 ^ k:Nat):Int):=by push_cast;rfl
 have hy:y<2 ^ k:=by
  have:((y:Nat):Int)<((2 ^ k:Nat):Int):=by push_cast;exact hx
  omega
 rw[e] at hs |-
 rw[u64_or_nat _ _ (by omega) (by omega)];have:=Nat.shiftLeft_add_eq_or_of_lt hy m;rw[Nat.shiftLeft_eq] at this;rw[<- this];push_cast;rfl
def OW(h c:Int):Int:=bits BinOp.xor IntKind.u32 h c*16777619%4294967296
def Fq(l:List Int):Int:=l.foldl OW 2166136261
theorem FC(h c:Int):0<=OW h c/\OW h c<4294967296:=
 ⟨Int.emod_nonneg _ (by decide),Int.emod_lt_of_pos _ (by decide)⟩
theorem FQ(l:List Int):0<=Fq l/\Fq l<4294967296:=by
 unfold Fq;rcases List.eq_nil_or_concat l with rfl| ⟨r,x,rfl⟩
 . exact⟨by decide,by decide⟩
 . rw[List.concat_eq_append,List.foldl_append]
   exact FC _ _
theorem RE(l:List Int)(j:Nat)(h:j<l.length):Fq (l.take (j+1))=OW (Fq (l.take j)) (l.getD j 0):=by
 unfold Fq;rw[Bz h,List.foldl_append];simp[h]
theorem rk(j:Nat):(256:Int) ^ j=2 ^ (8*j):=by rw[Int.pow_mul];rfl
def DH(l:List Int):List Int:=l ++ Aw (252-l.length) 0
def BK(l:List Int):List Int:=DH l ++ BT (Fq (DH l)) 4
theorem EK(l:List Int)(h:l.length<=252):(DH l).length=252:=by simp[DH];omega
theorem Dm(l:List Int)(h:l.length<=252):(BK l).length=256:=by rw[BK,AD,EK l h,Bc]
def Fx(l:List Int):Prop:=l.length=256/\Cl l 252 4=Fq (l.take 252)
theorem JP(n:Int)(k:Nat)(h:0<=n):aq (BT n k)=n%256 ^ k:=by
 induction k with
 |zero=>simp[Hh,aq,Int.emod_one]
 |succ k ih=>
  rw[Hf,jh,ih,Bc,<- rk,Int.pow_succ];have hp:(0:Int)<256 ^ k:=by have:=LA k;omega
  generalize (256:Int) ^ k=p at*
  have h1:=Int.mul_ediv_add_emod n p;have h2:=Int.mul_ediv_add_emod (n / p) 256;have h3:=Int.emod_nonneg n (show p≠0 by omega);have h4:=Int.emod_lt_of_pos n hp;have h5:=Int.emod_nonneg (n / p) (show(256:Int)≠0 by decide);have h6:=Int.emod_lt_of_pos (n / p) (show(0:Int)<256 by decide);have h7:n=p*256*(n / p / 256)+(n%p+n / p%256*p):=by
   have e:p*(n / p)=p*(256*(n / p / 256)+n / p%256):=(by rw[h2]);rw[Int.mul_add,<- Int.mul_assoc] at e;rw[Int.mul_comm (n / p%256) p];omega
  have h8:n%p+n / p%256*p<p*256:=by
   have:n / p%256*p<=255*p:=Int.mul_le_mul_of_nonneg_right (by omega) (by omega);omega
  have h9:0<=n%p+n / p%256*p:=by
   have:=Int.mul_nonneg h5 (Int.le_of_lt hp);omega
  generalize hr:n%p+n / p%256*p=r at*
  conv=>rhs;rw[h7]
  rw[Int.mul_add_emod_self_left];exact(DQ h9 h8).symm
theorem iu(l:List Int)(n:Int)(k:Nat)(h:0<=n):Cl (l ++ BT n k) l.length k=n%256 ^ k:=by
 unfold Cl;rw[List.drop_left,AR (by rw[Bc];exact At _),JP n k h]
theorem Jg(l:List Int)(hl:l.length<=252):Fx (BK l):=by
 have hf:=EK l hl;have hb:=FQ (DH l);refine⟨Dm l hl,?_⟩;have e1:(BK l).take 252=DH l:=by rw[BK,<- hf,Dz];rfl
 rw[e1];have:Cl (BK l) 252 4=Fq (DH l)%256 ^ 4:=by
  have:=iu (DH l) (Fq (DH l)) 4 hb.1;rw[hf] at this;exact this
 rw[this];exact DQ hb.1 hb.2
end
section
open Go.RowKit Go.ChangeShapes Go.WideShapes
theorem Jd{k:IntKind}{a b:Int}(h:a=b):Aj (Y k a)=Aj (Y k b):=by rw[h]
theorem Df{a b:Bool}(h:a=b):Aj (AP a)=Aj (AP b):=by rw[h]
theorem AM{B:Nat}{a w:Z}(h:Ap B a w)(n:Nat):Ap B a (w.drewN n):=⟨h.os,h.tape,h.output,h.size,h.block⟩
theorem As(w:Z)(o:Obj):Ap w.heap.size w (w.alloc o):=(AC _ _).alloc (At _) _
theorem B5{P:Program}{f:FuncId}{args:Array I}{w:Z}{n:Nat}{v:I}
 (h:Av P f args (w.drewN n) fun e w'=>e=Aj v/\w.drewN n=w'):Av P f args (w.drewN n) fun e w''=>e=Aj v/\∃ m,w''=w.drewN m:=
 Av.quiet_of_same (h.mono fun _ _ ⟨he,hw⟩=>⟨he,hw.symm⟩)
def Fv(l:List Int):Prop:=∀ j,0<=l.getD j 0/\l.getD j 0<=255
theorem EY:Fv []:=fun j=>by simp
theorem CH{l:List Int}(h:∀ x∈l,0<=x/\x<=255):Fv l:=fun j=>by
 by_cases hj:j<l.length
 . have:l.getD j 0∈l:=by simp[hj]
   exact h _ this
 . rw[An,A2 (by omega)];exact⟨by decide,by decide⟩
theorem C3{l:List Int}(h:Fv l):∀ x∈l,0<=x/\x<=255:=fun x hx=>by
 obtain⟨j,hj,rfl⟩:=Cw hx;have:=h j
 simpa [hj] using this
theorem DL{a b:List Int}(ha:Fv a)(hb:Fv b):Fv (a ++ b):=
 CH fun x hx=>(BI.1 hx).elim (C3 ha x) (C3 hb x)
theorem C4(n:Nat):Fv (Aw n 0):=CH fun x hx=>by rw[BS hx];decide
theorem Es{l:List Int}(h:Fv l)(n:Nat):Fv (l.take n):=CH fun x hx=>C3 h x (DB hx)
theorem MS{l:List Int}(h:Fv l)(n:Nat):Fv (l.drop n):=CH fun x hx=>C3 h x (List.mem_of_mem_drop hx)
def BSl(w:Z)(v:I)(l:List Int):Prop:=
 Fv l/\((v=Ak R 0 0/\l=[])\/∃ a cap,v=Ak (V a) l.length cap/\l.length<=cap/\∀ j,j<l.length->a.block<w.heap.size/\a.spot=R/\w.cell? ⟨a.block,a.off+j,R⟩=V (Y .u8 (l.getD j 0)))
theorem Kt(w:Z):BSl w (Ak R 0 0) []:=⟨EY,AU ⟨rfl,rfl⟩⟩
theorem BSl.keep{w w':Z}{v:I}{l:List Int}(h:BSl w v l)(hs:w.heap.size<=w'.heap.size)(hb:∀ p:Addr,p.block<w.heap.size->w'.cell? p=w.cell? p):BSl w' v l:=by
 refine⟨h.1,?_⟩;rcases h.2 with h| ⟨a,cap,hv,Cx,hc⟩
 . exact AU h
 . refine AW ⟨a,cap,hv,Cx,fun j hj=>?_⟩
   obtain⟨h1,h2,h3⟩:=hc j hj;exact⟨AA h1 hs,h2,by rw[hb _ (by exact h1),h3]⟩
theorem BSl.below{w w':Z}{v:I}{l:List Int}(h:BSl w v l)(hb:Ap w.heap.size w w'):BSl w' v l:=
 h.keep hb.size fun _ hp=>hb.cell hp
theorem BSl.shape{w:Z}{v:I}{l:List Int}(h:BSl w v l):∃ ao cap,v=Ak ao l.length cap/\l.length<=cap:=by
 rcases h.2 with⟨hv,hl⟩| ⟨a,cap,hv,Cx,_⟩
 . exact⟨R,0,by rw[hv,hl];rfl,by rw[hl];exact At _⟩
 . exact⟨V a,cap,hv,Cx⟩
def OB(w:Z)(B:Nat)(v:I)(l:List Int):Prop:=Fv l/\w.ownsRow B 5 1 v l.length (l.map (Y .u8))
theorem OB.bsl{w:Z}{B:Nat}{v:I}{l:List Int}(h:OB w B v l):BSl w v l:=by
 refine⟨h.1,?_⟩;rcases h.2.2 with⟨hv,hl⟩| ⟨g,cap,cur,hv,hg,hh,Ii,Jq,Jr,ht⟩
 . exact AU ⟨hv,AO hl⟩
 . refine AW ⟨_,cap,hv,Ii,fun j hj=>⟨(Ah.1 hh).1,rfl,?_⟩⟩
   show w.cell? ⟨g,0+j,R⟩=_
   rw[Br,Aq _ _ _ _ _ _ hh];have:(cur.toList.take (l.length*1))[j]? =(l.map (Y .u8))[j]? :=(by rw[ht]);rw[AZ,Au (by omega)] at this
   simpa [hj] using this
theorem OB.more{w:Z}{B B':Nat}{v:I}{l:List Int}(h:OB w B v l)(hB:B'<=B):OB w B' v l:=by
 refine⟨h.1,h.2.1,?_⟩;rcases h.2.2 with h| ⟨g,cap,cur,hv,hg,r⟩
 . exact AU h
 . exact AW ⟨g,cap,cur,hv,AI hB hg,r⟩
theorem OB.below{w w':Z}{B:Nat}{v:I}{l:List Int}(h:OB w B v l)(hb:Ap w.heap.size w w'):OB w' B v l:=by
 refine⟨h.1,h.2.1,?_⟩;rcases h.2.2 with h| ⟨g,cap,cur,hv,hg,hh,r⟩
 . exact AU h
 . exact AW ⟨g,cap,cur,hv,hg,by rw[hb.block g (Ah.1 hh).1];exact hh,r⟩
def JQ(w:Z)(l:List Int)(e:Ending)(w':Z):Prop:=
 ∃ v,e=Aj v/\OB w' w.heap.size v l/\Ap w.heap.size w w'
theorem IB:(U.info? 5).map (fun i=>(i.zero,i.size,i.bytes))=V (V (Y .u8 0),1,1):=by kernel_rfl
theorem aU(n:Nat):madeCells (Y .u8 0).cells n=AK n (Y .u8 0):=by
 apply Array.ext';rw[show(Y .u8 0).cells=#[Y .u8 0] from rfl,toList_madeCells_one];simp
theorem Dx(w:Z){ops:Array BE}{rest:List BE}{o:BE}{a:Act}{Q:Exit->Act->Z->Prop}
 (hg:o.guard=R) (l c:Operand) (JF:o.op=Op.makeSlice 77 l c) (L C:Int) (n m:Nat) (hl:a.eval l=Y E L) (hc:a.eval c=Y E C) (hL:L=n) (hC:C=m) (W8:n<=m) (hn:m<=200000000000000)
 (hK:Cf U ops Q rest (a.put o.dst (Ak (V ⟨w.heap.size,0,R⟩) n m)) (w.alloc (Am (AK m (Y .u8 0)) 5))):
 Cf U ops Q (o :: rest) a w:=by
 refine CA hg fun K hK'=>?_
 obtain⟨i,h2,h3,h4,h5⟩:=Bf IB;subst hL;subst hC;have CX:=run_make (P:=U) w 77 5 i (Y .u8 0) Tryz.underlying77 h2 h3 E E n m (by omega) (by omega) (by rw[h5];omega) (by omega);unfold BE.wp;simp only[Cd,h4,Nat.mul_one,aU] at CX;simp[execOp,JF,hl,hc,CX,Result.andThen];exact hK' _ _ hK
theorem CJ(w:Z){ops:Array BE}{rest:List BE}{o:BE}{a:Act}{Q:Exit->Act->Z->Prop}
 (hg:o.guard=R) (l c:Operand) (JF:o.op=Op.makeSlice 77 l c) (C:Int) (n:Nat) (hl:a.eval l=Y E C) (hc:a.eval c=Y E C) (hC:C=n) (hn:n<=200000000000000)
 (hK:Cf U ops Q rest (a.put o.dst (Ak (V ⟨w.heap.size,0,R⟩) n n)) (w.alloc (Am (AK n (Y .u8 0)) 5))):
 Cf U ops Q (o :: rest) a w:=Dx w hg l c JF C C n n hl hc hC hC (At _) hn hK
def Wrote(w w':Z)(g:Nat):Prop:=w'.os=w.os/\w'.tape=w.tape/\w'.output=w.output/\w'.heap.size=w.heap.size/\∀ k,k≠g->w'.heap[k]? =w.heap[k]?
theorem Wrote.refl(w:Z)(g:Nat):Wrote w w g:=⟨rfl,rfl,rfl,rfl,fun _ _=>rfl⟩
theorem Wrote.setCell(w:Z)(g o:Nat)(u:I):Wrote w (w.setCell ⟨g,o,R⟩ u) g:=
 ⟨rfl,rfl,rfl,by simp[Z.setCell],fun k hk=>AN w ⟨g,o,R⟩ k u hk⟩
theorem Wrote.below{w w':Z}{g B:Nat}(h:Wrote w w' g)(hB:B<=g):Ap B w w':=
 ⟨h.1,h.2.1,h.2.2.1,by rw[h.2.2.2.1];exact At _,fun k hk=>h.2.2.2.2 k (by omega)⟩
theorem Wrote.setRow(w:Z)(g:Nat)(cs:Array I):Wrote w (w.setRow g cs) g:=
 ⟨rfl,rfl,rfl,by simp[Z.setRow],fun k hk=>setRow_other w g k cs hk⟩
theorem C6{P:Program}{w:Z}{ops:Array BE}{rest:List BE}{o:BE}{a:Act}{Q:Exit->Act->Z->Prop}(Du:o.guard=R)(d s:Operand)(dT sT:Cg)
 (ho:o.op=.call { callee:=.builtin .copy,args:=#[d,s],argTypes:=#[dT,sT] }) (elem:Cg) (hu:P.underlying dT=V (.slice elem)) (Ed:(P.info? elem).map (·.size)=V 1)
 (dp sp:Option Addr) (dLen dCap sLen sCap:Nat) (hd:a.eval d=Ak dp dLen dCap) (hs:a.eval s=Ak sp sLen sCap)
 (g off:Nat) (cur:List I) (t:Cg) (hg:w.heap[g]? =V (Am cur.toArray t (0,0))) (cs:List I) (n:Nat) (hn:cs.length=n) (hnn:n=Nat.min sLen dLen)
 (Js:0<cs.length->dp=V ⟨g,off,R⟩/\∃ ad,sp=V ad/\∀ j v,cs[j]? =V v->w.cell? (ad.add j)=V v)
 (GZ:off+cs.length<=cur.length) (h1:∀ v∈cs,v.oneCell'=AE)
 (h:∀ w',Hid (w'.heap[g]? =V (Am (splice cur off cs).toArray t (0,0)))->Wrote w w' g->Cf P ops Q rest (a.put o.dst (goInt n)) w'):
 Cf P ops Q (o :: rest) a w:=by
 subst hn;by_cases h0:cs.length=0
 . obtain rfl:cs=[]:=AO h0
   refine wpList_copy_nothing Du d s dT sT ho elem hu Ed dp sp dLen dCap sLen sCap hd hs (by simpa using hnn.symm) ?_;exact h w (show _=_ by simpa [splice] using hg) (Wrote.refl _ _)
 . obtain⟨rfl,ad,rfl,Um⟩:=Js (by omega)
   refine wpList_copy_own Du d s dT sT ho elem hu Ed g off dLen dCap ad sLen sCap hd hs cur.toArray t hg cs hnn Um (by simpa using GZ) h1 ?_;exact h _ (show _=_ by simpa [splice] using CC w g _ _ t _ hg) (Wrote.setRow _ _ _)
theorem EM{α:Type}(L cs:List α)(h:cs.length=L.length):splice L 0 cs=cs:=by
 simp[splice,h]
theorem Fi{w w1:Z}{ao:Option Addr}{N cap:Nat}{l:List Int}(hs:BSl w (Ak ao N cap) l)(hb:∀ p:Addr,p.block<w.heap.size->w1.cell? p=w.cell? p)(n:Nat):
 0<((l.take n).map (Y .u8)).length->∃ ad,ao=V ad/\∀ j v,((l.take n).map (Y .u8))[j]? =V v->w1.cell? (ad.add j)=V v:=by
 intro Js;rcases hs.2 with⟨_,hl⟩| ⟨a,c,hv,_,hc⟩
 . rw[hl] at Js;simp at Js
 . obtain⟨rfl,_⟩:ao=V a/\N=l.length:=by simpa using ⟨(AY hv).1,(AY hv).2.1⟩
   refine⟨a,rfl,fun j v hj=>?_⟩;have MV:j<(l.take n).length:=by simpa using (Bb.1 hj).1
   have ug:j<l.length:=(by rw[AJ] at MV;omega);have hjn:j<n:=(by rw[AJ] at MV;omega);obtain⟨h1,h2,h3⟩:=hc j ug;obtain⟨b,off,spot⟩:=a;obtain rfl:spot=R:=h2;rw[BY,hb _ (by exact h1),h3,<- hj];simp[ug,hjn]
theorem OB.of_heap{w:Z}{B g cap:Nat}{l:List Int}{rest:List I}(hb:Fv l)(hB:B<=g)
 (hg:w.heap[g]? =V (Am ((l.map (Y .u8)) ++ rest).toArray 5 (0,0))) (Cx:cap=l.length+rest.length) (hm:cap<=maxLen):
 OB w B (Ak (V ⟨g,0,R⟩) l.length cap) l:=by
 refine⟨hb,by simp,AW ⟨g,cap,_,rfl,hB,hg,by omega,hm,by simp[Cx],?_⟩⟩;simp
theorem PK(w:Z):OB (w.alloc (Am #[] 5)) w.heap.size (Ak (V ⟨w.heap.size,0,R⟩) 0 0) []:=
 OB.of_heap (l:=[]) (rest:=[]) EY (At _) (Ar w _) rfl (by decide)
theorem BQ(w:Z){ops:Array BE}{rest:List BE}{o:BE}{a:Act}{Q:Exit->Act->Z->Prop}(Du:o.guard=R)(s x:Operand)
 (ho:o.op=.call { callee:=.builtin .append,args:=#[s,x],argTypes:=#[77,77] })
 (B:Nat) (v:I) (l:List Int) (hs:a.eval s=v) (hown:OB w B v l) (w0:Z) (u:I) (m:List Int) (hx:a.eval x=u) (hr:BSl w0 u m)
 (hk:∀ p:Addr,p.block<w0.heap.size->w.cell? p=w0.cell? p) (hlen:l.length+m.length<=140737488355328) (hB:B<=w.heap.size)
 (h:∀ v' w',OB w' B v' (l ++ m)->Ap B w w'->w.grownBy w' v.ownBlock->Cf U ops Q rest (a.put o.dst v') w'):Cf U ops Q (o :: rest) a w:=by
 obtain⟨i,h2,h3,h4,h5⟩:=Bf IB;obtain⟨ao,cap,rfl,Cx⟩:=hr.shape;have hby:=DL hown.1 hr.1;have e1:(l ++ m).length=l.length+m.length:=AD;have e2:(l ++ m).map (Y .u8)=l.map (Y .u8) ++ m.map (Y .u8):=Cp;cases ao with
 |none=>
  have hm:m=[]:=by
   rcases hr.2 with⟨_,hl⟩| ⟨_,_,hv,_⟩
   . exact hl
   . simp at hv
  subst hm;have rV:cap=0:=by
   rcases hr.2 with⟨hv,_⟩| ⟨_,_,hv,_⟩
   . simp at hv;exact hv
   . simp at hv
  subst rV;refine wpList_append_own_none Du s x 77 ho B 5 i 1 Tryz.underlying77 h2 v l.length _ hs hown.2 (by simpa using hx) ?_;exact h v w (by simpa using hown) (AC _ _) (Z.grownBy.refl w _)
 |some ad=>
  have Dc:∀ j v,(m.map (Y .u8))[j]? =V v->w.cell? (ad.add j)=V v:=by
   intro j v hj;have MV:j<m.length:=by simpa using (Bb.1 hj).1
   obtain⟨ad',he,hc⟩:=Fi hr hk m.length (by simp;omega);obtain rfl:ad=ad':=by simpa using he
   exact hc j v (by simpa using hj)
  refine FU w Du s x 77 ho B 5 i (Y .u8 0) 1 1 Tryz.underlying77 h2 h3 h4 h5 rfl (by decide) v l.length _ hs hown.2 ad m.length cap _ hx (by simp) Dc (ints_oneCell _ _) (by simp only[maxLen];omega) (by omega) hB fun v' w' h6 h7 _=>?_
  refine h v' w' ⟨hby,by rw[e1,e2];exact h6⟩ ((AC _ _).grown h7 hB fun k hk=>(hown.2.lt k hk).1) h7
theorem YX(x:Int)(h:0<=x/\x<=255):Fv [x]:=CH fun y hy=>by simp at hy;subst hy;exact h
theorem FO(w1:Z)(x:Int){ops:Array BE}{rest:List BE}{o:BE}{a:Act}{Q:Exit->Act->Z->Prop}(Du:o.guard=R)(s y:Operand)
 (ho:o.op=.call { callee:=.builtin .append,args:=#[s,y],argTypes:=#[77,77] })
 (B:Nat) (v:I) (l:List Int) (hs:a.eval s=v) (hown:OB w1 B v l) (hx:0<=x/\x<=255) (hy:a.eval y=Ak (V ⟨w1.heap.size,0,R⟩) 1 1)
 (hlen:l.length+1<=140737488355328) (hB:B<=w1.heap.size)
 (h:∀ v' w',OB w' B v' (l ++ [x])->Ap B w1 w'->Cf U ops Q rest (a.put o.dst v') w'):Cf U ops Q (o :: rest) a (w1.alloc (Am #[Y .u8 x] 5)):=by
 have hbel:Ap w1.heap.size w1 (w1.alloc (Am #[Y .u8 x] 5)):=(AC _ _).alloc (At _) _;have QW:(w1.alloc (Am #[Y .u8 x] 5)).heap[w1.heap.size]? =V (Am #[Y .u8 x] 5 (0,0)):=Ar w1 _;have hr:BSl (w1.alloc (Am #[Y .u8 x] 5)) (Ak (V ⟨w1.heap.size,0,R⟩) 1 1) [x]:=by
  refine⟨YX x hx,AW ⟨_,1,rfl,At _,fun j hj=>?_⟩⟩;have hj0:j=0:=by simpa using hj
  subst hj0;refine⟨by simp,rfl,?_⟩;rw[Aq _ _ _ _ _ _ QW];rfl
 refine BQ _ Du s y ho B v l hs (hown.below hbel) _ _ [x] hy hr (fun _ _=>rfl) (by simpa using hlen) (by simp;omega) fun v' w' h1 h2 _=>?_
 exact h v' w' h1 ((hbel.mono hB).trans h2)
theorem Ig{w:Z}{v:I}{l:List Int}(hs:BSl w v l):(convert 77 9 v).run U w=.ok (.string (BX l)) w:=by
 rcases hs.2 with⟨rfl,rfl⟩| ⟨⟨b,off,spot⟩,cap,rfl,_,hc⟩
 . exact run_convert_bytes_nil w 77 5 Tryz.underlying77 Tryz.underlying5 0 0 _ Tryz.underlying9
 . by_cases h0:l.length=0
   . obtain rfl:l=[]:=AO h0
     rw[run_convert_bytes_string w 77 9 5 _ _ cap Tryz.underlying77 Tryz.underlying5 Tryz.underlying9,
      run_bytesToString w _ _ cap [] (by simp[loadCells,loadCellsFrom])]
     rfl
   . obtain⟨_,ZI,_⟩:=hc 0 (by omega)
     obtain rfl:spot=R:=ZI;exact run_convert_bytes_arg w 77 5 Tryz.underlying77 Tryz.underlying5 b off l.length cap l rfl (fun i hi=>(hc i hi).2.2) _ Tryz.underlying9
end
section
namespace BM
def D5(x:Int)(k:Nat):Bool:=decide (x / 2 ^ k%2=1)
structure Rep (l:List Int) (L:List Bool):Prop where
 len:l.length=(L.length+7) / 8
 byte:∀ j,0<=l.getD j 0/\l.getD j 0<=255
 bit:∀ j,D5 (l.getD (j / 8) 0) (j%8)=L.getD j X
theorem PC(k:Nat):D5 0 k=X:=by simp[D5]
theorem ak(n:Nat):Rep (Aw ((n+7) / 8) 0) (Aw n X):=by
 have e:∀ j,(Aw ((n+7) / 8) (0:Int)).getD j 0=0:=fun j=>by
  rw[An,Cu];split <;> rfl
 refine⟨by simp,fun j=>by rw[e];decide,fun j=>?_⟩;rw[e,PC,An,Cu];split <;> rfl
theorem Iv(x y:Int)(k:Nat)(h:D5 x k=D5 y k):x / 2 ^ k%2=y / 2 ^ k%2:=by
 simp only[D5,decide_eq_decide] at h;generalize x / 2 ^ k=p at*
 generalize y / 2 ^ k=q at*
 omega
theorem Wt(x:Int)(h0:0<=x)(h1:x<=255):
 x=x / 2 ^ 0%2+2*(x / 2 ^ 1%2)+4*(x / 2 ^ 2%2)+8*(x / 2 ^ 3%2)+16*(x / 2 ^ 4%2)+32*(x / 2 ^ 5%2)+64*(x / 2 ^ 6%2)+128*(x / 2 ^ 7%2):=by
 omega
theorem ik(x y:Int)(hx:0<=x/\x<=255)(hy:0<=y/\y<=255)(h:∀ k,k<8->D5 x k=D5 y k):x=y:=by
 rw[Wt x hx.1 hx.2,Wt y hy.1 hy.2]
 rw[Iv x y 0 (h 0 (by omega)),Iv x y 1 (h 1 (by omega)),Iv x y 2 (h 2 (by omega)),Iv x y 3 (h 3 (by omega)),
  Iv x y 4 (h 4 (by omega)),Iv x y 5 (h 5 (by omega)),Iv x y 6 (h 6 (by omega)),Iv x y 7 (h 7 (by omega))]
theorem SQ{l m:List Int}{L:List Bool}(hl:Rep l L)(hm:Rep m L):l=m:=by
 apply Bg (by rw[hl.len,hm.len]);intro j h1 h2;have e1:l[j]=l.getD j 0:=by simp[h1]
 have e2:m[j]=m.getD j 0:=by simp[h2]
 rw[e1,e2];refine ik _ _ (hl.byte j) (hm.byte j) fun k hk=>?_
 have a:=hl.bit (8*j+k);have b:=hm.bit (8*j+k);rw[show(8*j+k) / 8=j by omega,show(8*j+k)%8=k by omega] at a b;rw[a,b]
theorem Tr(x:Int)(k:Nat)(on:Bool)(y:Int)(hk:k<8)(h:y=if on then (if D5 x k then x else x+2 ^ k) else (if D5 x k then x-2 ^ k else x))(hx:0<=x/\x<=255):
 (0<=y/\y<=255)/\∀ j,j<8->D5 y j=if j=k then on else D5 x j:=by
 have key:∀ (b:Bool),D5 x k=b->(0<=y/\y<=255)/\∀ j,j<8->D5 y j=if j=k then on else D5 x j:=by
  intro b hb;rw[hb] at h;have hk':k=0\/k=1\/k=2\/k=3\/k=4\/k=5\/k=6\/k=7:=by omega
  refine⟨?_,fun j hj=>?_⟩
  . rcases hk' with rfl|rfl|rfl|rfl|rfl|rfl|rfl|rfl <;> cases b <;> cases on <;>
     simp[D5] at hb h <;> omega
  . have hj':j=0\/j=1\/j=2\/j=3\/j=4\/j=5\/j=6\/j=7:=by omega
    rcases hk' with rfl|rfl|rfl|rfl|rfl|rfl|rfl|rfl <;> cases b <;> cases on <;>
     simp[D5] at hb h <;> rcases hj' with rfl|rfl|rfl|rfl|rfl|rfl|rfl|rfl <;> simp[D5,h] <;> omega
 exact key _ rfl
theorem getD_set{α:Type}(l:List α)(i j:Nat)(v d:α)(hi:i<l.length):(l.set i v).getD j d=if j=i then v else l.getD j d:=by
 rw[An,List.getElem?_set,An];by_cases h:i=j
 . subst h;simp[hi]
 . rw[Ax h,Ax (fun e=>h e.symm)]
theorem Z0{l:List Int}{L:List Bool}(h:Rep l L)(i:Nat)(on:Bool)(hi:i<L.length)(y:Int)
 (hy:y=if on then (if D5 (l.getD (i / 8) 0) (i%8) then l.getD (i / 8) 0 else l.getD (i / 8) 0+2 ^ (i%8)) else (if D5 (l.getD (i / 8) 0) (i%8) then l.getD (i / 8) 0-2 ^ (i%8) else l.getD (i / 8) 0)):
 Rep (l.set (i / 8) y) (L.set i on):=by
 have hlen:=h.len;have hil:i / 8<l.length:=by omega
 obtain⟨b1,b2⟩:=Tr (l.getD (i / 8) 0) (i%8) on y (Nat.mod_lt _ (by omega)) hy (h.byte _);refine⟨by simp[hlen],fun j=>?_,fun j=>?_⟩
 . rw[getD_set _ _ _ _ _ hil];split
   . exact b1
   . exact h.byte j
 . rw[getD_set _ _ _ _ _ hil,getD_set _ _ _ _ _ hi]
   by_cases hj:j / 8=i / 8
   . rw[Au hj,b2 _ (Nat.mod_lt _ (by omega))]
     by_cases e:j=i
     . subst e;simp
     . rw[Ax (by omega),Ax e,<- h.bit j,hj]
   . rw[Ax hj,Ax (fun e=>hj (by rw[e])),h.bit j]
def D9(L:List Bool):Nat:=(L.filter id).length
theorem Kw(L:List Bool):D9 L<=L.length:=List.length_filter_le _ _
theorem Oo{L:List Bool}{k:Nat}(h:k<L.length):D9 (L.take (k+1))=D9 (L.take k)+if L.getD k X then 1 else 0:=by
 rw[Bz h,D9,List.filter_append,AD,D9];simp only[An,AL h,Option.getD_some];cases L[k] <;> rfl
theorem J3(L:List Bool)(k:Nat):D9 (L.take k)<=k:=AI (Kw _) (by simp;omega)
end BM
end
section
open Go.RowKit BM
theorem qS:∀ k,k<8->∀ n,n<256->(n ||| 2 ^ k)=if n / 2 ^ k%2=1 then n else n+2 ^ k:=by decide +kernel
theorem RN(n k:Nat):D5 (n:Int) k=decide (n / 2 ^ k%2=1):=by
 unfold D5;have e:(n:Int) / 2 ^ k%2=((n / 2 ^ k%2:Nat):Int):=by push_cast;rfl
 rw[e];rw[decide_eq_decide];omega
theorem aX(k:Nat)(hk:k<8):IntKind.u64.wrap (2 ^ k)%256=((2 ^ k:Nat):Int):=by
 have h:k=0\/k=1\/k=2\/k=3\/k=4\/k=5\/k=6\/k=7:=by omega
 rcases h with rfl|rfl|rfl|rfl|rfl|rfl|rfl|rfl <;> decide
theorem a8(k:Nat)(hk:k<8):1<=2 ^ k/\2 ^ k<=128:=
 ⟨Nat.one_le_two_pow,by have:=Nat.pow_le_pow_right (n:=2) (by omega) (show k<=7 by omega);simpa using this⟩
theorem jq(x:Int)(k:Nat)(hk:k<8)(h0:0<=x)(h1:x<=255):bits BinOp.or IntKind.u8 x (IntKind.u64.wrap (2 ^ k)%256)=if D5 x k then x else x+2 ^ k:=by
 obtain⟨n,rfl⟩:∃ n:Nat,x=n:=⟨x.toNat,by omega⟩;have hp:=a8 k hk;have ht:=qS k hk n (by omega);rw[aX k hk,u8_or_nat n (2 ^ k) (by omega) (by omega),ht,RN];by_cases hb:n / 2 ^ k%2=1
 . rw[Au hb,Au (by simpa using hb)]
 . rw[Ax hb,Ax (by simpa using hb)];push_cast;rfl
end
section
open Go.RowKit
theorem av{k:IntKind}{a b:Int}(h:a=b):Aj (Y k a)=Aj (Y k b):=by rw[h]
def CY(b:Int):Bool:=decide (1<=b/\b<=768/\b%64=0)
def MR(b:Int):Int:=if CY b=AE then b / 64 else 0
def I5(n:Int):Int:=if n<0 then -1 else n / 64
def Hr(g:Int):Int:=if 0<=g/\g<12 then (if g=0 then 1 else g*64) else -1
def PD(g:Int):Int:=if 0<=g/\g<12 then Hr g+1 else -1
def CR(n:Int):Bool:=decide ((0<=n/\n<43)\/n=63\/(64<=n/\n<768/\n%64<2))
theorem Tv{b:Int}(h:CY b=AE):∃ k:Nat,1<=k/\k<=12/\b=64*(k:Int):=by
 have:=AX h;exact⟨(b / 64).toNat,by omega,by omega,by omega⟩
theorem SS(k:Nat)(h1:1<=k)(h2:k<=12):CY (64*(k:Int))=AE:=Az (by omega)
end
section
open Go.RowKit BM
def Gu(i a:Int):Bool:=
 if i=0\/i=65535 then decide (a=0) else if i=65534 then decide (a<6) else decide (i<48) && (decide (a<138) || decide (a=65535))
def OwB(O:List (Int × Int)):Prop:=∀ j,(0<=(O.getD j (0,0)).1/\(O.getD j (0,0)).1<=65535)/\(0<=(O.getD j (0,0)).2/\(O.getD j (0,0)).2<=65535)
def NJ(O:List (Int × Int))(j:Nat):Bool:=Gu (O.getD j (0,0)).1 (O.getD j (0,0)).2
def Jc(O:List (Int × Int)):Nat->Bool
 |0=>AE
 |k+1=>Jc O k && NJ O k
def FM(O:List (Int × Int)):Bool:=decide (O.length=64) && Jc O O.length
theorem Mw(O:List (Int × Int))(k:Nat):Jc O k=AE ↔ ∀ j,j<k->NJ O j=AE:=by
 induction k with
 |zero=>exact⟨fun _ j h=>by omega,fun _=>rfl⟩
 |succ k ih=>
  rw[Jc,AQ,ih];constructor
  . rintro⟨h1,h2⟩ j hj
    by_cases e:j=k
    . rw[e];exact h2
    . exact h1 j (by omega)
  . exact fun h=>⟨fun j hj=>h j (by omega),h k (by omega)⟩
theorem ZY{O:List (Int × Int)}{k n:Nat}(h:NJ O k=X)(hk:k<n):Jc O n=X:=by
 cases hb:Jc O n
 . rfl
 . have:=(Mw O n).1 hb k hk
   rw[h] at this;cases this
def Em(O:List (Int × Int)):Nat->List Int
 |0=>[]
 |k+1=>Em O k ++ BT (O.getD k (0,0)).1 2 ++ BT (O.getD k (0,0)).2 2
theorem Ff(O:List (Int × Int))(k:Nat):(Em O k).length=4*k:=by
 induction k with
 |zero=>rfl
 |succ k ih=>rw[Em,AD,AD,ih,Bc,Bc];omega
def DM(O:List (Int × Int)):List Int:=Em O O.length
theorem JS{O:List (Int × Int)}(h:∀ j,j<O.length->(0<=(O.getD j (0,0)).1/\(O.getD j (0,0)).1<=65535)/\(0<=(O.getD j (0,0)).2/\(O.getD j (0,0)).2<=65535)):OwB O:=fun j=>by
 by_cases hj:j<O.length
 . exact h j hj
 . rw[An,A2 (by omega)];decide
def EO(O:List (Int × Int))(j:Nat):Bool:=decide ((O.getD j (0,0)).1≠0)
def CQ(O:List (Int × Int))(k:Nat):List Bool:=(Bu k).map (EO O)
theorem EH(O:List (Int × Int))(k:Nat):(CQ O k).length=k:=by simp[CQ]
theorem PN(O:List (Int × Int))(k:Nat):CQ O (k+1)=CQ O k ++ [EO O k]:=by simp[CQ,GX]
def LW(g:Int)(j:Nat):Int × Int:=(if CR (64*g+(j:Int))=AE then 65535 else 0,0)
def FP(g:Int)(k:Nat):List (Int × Int):=(Bu k).map (LW g)
theorem ID(g:Int)(k:Nat):(FP g k).length=k:=by simp[FP]
theorem WG(g:Int)(k:Nat):FP g (k+1)=FP g k ++ [LW g k]:=by simp[FP,GX]
def QI(b:Bool):Int:=if b then 1 else 0
def Pt(L:List Bool)(j:Nat):Int:=QI (L.getD (8*j) X)+2*QI (L.getD (8*j+1) X)+4*QI (L.getD (8*j+2) X)+8*QI (L.getD (8*j+3) X)+
 16*QI (L.getD (8*j+4) X)+32*QI (L.getD (8*j+5) X)+64*QI (L.getD (8*j+6) X)+128*QI (L.getD (8*j+7) X)
def II(L:List Bool):List Int:=(Bu ((L.length+7) / 8)).map (Pt L)
theorem Eh(b:Bool):0<=QI b/\QI b<=1:=by cases b <;> decide
theorem GM(b:Bool)(x:Int)(h:x=QI b):decide (x=1)=b:=by subst h;cases b <;> rfl
theorem bV(v0 v1 v2 v3 v4 v5 v6 v7:Int)(h0:0<=v0/\v0<=1)(h1:0<=v1/\v1<=1)(h2:0<=v2/\v2<=1)(h3:0<=v3/\v3<=1)(h4:0<=v4/\v4<=1)(h5:0<=v5/\v5<=1)(h6:0<=v6/\v6<=1)(h7:0<=v7/\v7<=1)(x:Int)
 (hx:x=v0+2*v1+4*v2+8*v3+16*v4+32*v5+64*v6+128*v7):
 x / 2 ^ 0%2=v0/\x / 2 ^ 1%2=v1/\x / 2 ^ 2%2=v2/\x / 2 ^ 3%2=v3/\x / 2 ^ 4%2=v4/\x / 2 ^ 5%2=v5/\x / 2 ^ 6%2=v6/\x / 2 ^ 7%2=v7:=by
 refine⟨?_,?_,?_,?_,?_,?_,?_,?_⟩ <;> omega
theorem dW(L:List Bool)(j k:Nat)(hk:k<8):D5 (Pt L j) k=L.getD (8*j+k) X:=by
 obtain⟨e0,e1,e2,e3,e4,e5,e6,e7⟩:=bV _ _ _ _ _ _ _ _ (Eh (L.getD (8*j) X)) (Eh (L.getD (8*j+1) X)) (Eh (L.getD (8*j+2) X)) (Eh (L.getD (8*j+3) X))
  (Eh (L.getD (8*j+4) X)) (Eh (L.getD (8*j+5) X)) (Eh (L.getD (8*j+6) X)) (Eh (L.getD (8*j+7) X)) (Pt L j) rfl
 have e:k=0\/k=1\/k=2\/k=3\/k=4\/k=5\/k=6\/k=7:=by omega
 unfold D5;rcases e with rfl|rfl|rfl|rfl|rfl|rfl|rfl|rfl
 . exact GM _ _ e0
 . exact GM _ _ e1
 . exact GM _ _ e2
 . exact GM _ _ e3
 . exact GM _ _ e4
 . exact GM _ _ e5
 . exact GM _ _ e6
 . exact GM _ _ e7
theorem jY(L:List Bool)(j:Nat):0<=Pt L j/\Pt L j<=255:=by
 have h0:=Eh (L.getD (8*j) X);have h1:=Eh (L.getD (8*j+1) X);have h2:=Eh (L.getD (8*j+2) X);have h3:=Eh (L.getD (8*j+3) X);have h4:=Eh (L.getD (8*j+4) X);have h5:=Eh (L.getD (8*j+5) X);have h6:=Eh (L.getD (8*j+6) X);have h7:=Eh (L.getD (8*j+7) X);unfold Pt;omega
theorem ES(L:List Bool):(II L).length=(L.length+7) / 8:=by simp[II]
theorem Of(L:List Bool)(j:Nat):(II L).getD j 0=if j<(L.length+7) / 8 then Pt L j else 0:=by
 unfold II;rw[An,DR];by_cases h:j<(L.length+7) / 8
 . rw[Au h,List.getElem?_range h];rfl
 . rw[Ax h,A2 (by simp;omega)];rfl
theorem PH(L:List Bool):Rep (II L) L:=by
 refine⟨ES L,fun j=>?_,fun j=>?_⟩
 . rw[Of];split
   . exact jY L j
   . decide
 . rw[Of]
   by_cases h:j / 8<(L.length+7) / 8
   . rw[Au h,dW L _ _ (Nat.mod_lt _ (by omega))]
     congr 1;omega
   . rw[Ax h,PC,An,A2 (by omega)];rfl
def O9(g:Int)(L:List Bool):List Int:=[100,101,115,99] ++ BT g 2 ++ BT (D9 L) 2 ++ II L
def Gz(g:Int)(L:List Bool):List Int:=BK (O9 g L)
theorem Mt(g:Int)(L:List Bool)(h:L.length=64):(O9 g L).length=16:=by
 simp[O9,Bc,ES,h]
end
section
open Go.RowKit
theorem GL(b:Int)(hm:b<=9223372036854775807)(w:Z):Av U 205 #[Y E b] w fun e w'=>e=Aj (AP (CY b))/\w=w':=by
 by_cases h1:0<b
 . by_cases h2:b%64=0
   . by_cases h3:b / 64<=12
     . have hr:CY b=AE:=Az (by omega)
       rw[hr];have h0:0<=b:=(by omega);have h2':(b%64==0)=AE:=(by simp[h2]);clear hr h2;go_enter Tryz.func205,Tryz.ntmps205;go_wp2;go_ret;exact⟨rfl,rfl⟩
     . have hr:CY b=X:=AB (by omega)
       rw[hr];have h0:0<=b:=(by omega);have h2':(b%64==0)=AE:=(by simp[h2]);clear hr h2;go_enter Tryz.func205,Tryz.ntmps205;go_wp2;go_ret;exact⟨rfl,rfl⟩
   . have hr:CY b=X:=AB (by omega)
     rw[hr];have h0:0<=b:=(by omega);have h2':(b%64==0)=X:=(by simp[h2]);clear hr;go_enter Tryz.func205,Tryz.ntmps205;go_wp2;go_ret;exact⟨rfl,rfl⟩
 . have hr:CY b=X:=AB (by omega)
   rw[hr];clear hr;go_enter Tryz.func205,Tryz.ntmps205;go_wp2;go_ret;exact⟨rfl,rfl⟩
theorem GQ(k:Nat)(h1:1<=k)(h2:k<=12)(w:Z):Av U 205 #[Y E (64*(k:Int))] w fun e w'=>e=Aj (AP AE)/\w=w':=by
 have:=GL (64*(k:Int)) (by omega) w;rw[SS k h1 h2] at this;exact this
theorem LC(b:Int)(hm:b<=9223372036854775807)(h:CY b=X)(w:Z):Av U 205 #[Y E b] w fun e w'=>e=Aj (AP X)/\w=w':=by
 have:=GL b hm w;rw[h] at this;exact this
theorem Ka(k:Nat)(h1:1<=k)(h2:k<=12)(w:Z):Av U 220 #[Y E (64*(k:Int))] w fun e w'=>e=Aj (Y E k)/\w=w':=by
 go_enter Tryz.func220,Tryz.ntmps220;go_wp2_with (go_at_call 205;refine(GQ k h1 h2 _).mono ?_;rintro e w' ⟨rfl,rfl⟩)
 go_ret;exact⟨av (by omega),rfl⟩
theorem UC(b:Int)(hm:b<=9223372036854775807)(w:Z):Av U 220 #[Y E b] w fun e w'=>e=Aj (Y E (MR b))/\w=w':=by
 cases hb:CY b
 . have hr:MR b=0:=by unfold MR;rw[Ax (by simp[hb])]
   rw[hr];have HB:=wM hb;clear hb hr;go_enter Tryz.func220,Tryz.ntmps220;go_wp2_with (go_at_call 205;refine(LC b hm HB.out _).mono ?_;rintro e w' ⟨rfl,rfl⟩)
   go_ret;exact⟨rfl,rfl⟩
 . obtain⟨k,h1,h2,rfl⟩:=Tv hb
   have hr:MR (64*(k:Int))=k:=(by unfold MR;rw[Au hb];omega);rw[hr];exact Ka k h1 h2 w
theorem L0(n:Int)(hm:n<=9223372036854775807)(w:Z):Av U 238 #[Y E n] w fun e w'=>e=Aj (Y E (I5 n))/\w=w':=by
 by_cases h:n<0
 . have hr:I5 n= -1:=Au h
   rw[hr];clear hr;go_enter Tryz.func238,Tryz.ntmps238;go_wp2;go_ret;exact⟨rfl,rfl⟩
 . have hr:I5 n=n / 64:=Ax h
   rw[hr];clear hr;have h0:0<=n:=(by omega);go_enter Tryz.func238,Tryz.ntmps238;go_wp2;go_ret;exact⟨rfl,rfl⟩
theorem DE(g:Int)(h1:0<=g)(h2:g<12)(w:Z):Av U 241 #[Y E g] w fun e w'=>e=Aj (AP AE)/\w=w':=by
 go_enter Tryz.func241,Tryz.ntmps241;go_wp2;go_ret;exact⟨rfl,rfl⟩
theorem Jn(g:Int)(h:¬ (0<=g/\g<12))(w:Z):Av U 241 #[Y E g] w fun e w'=>e=Aj (AP X)/\w=w':=by
 by_cases h0:0<=g
 . have h1:¬ g<12:=fun h2=>h ⟨h0,h2⟩
   go_enter Tryz.func241,Tryz.ntmps241;go_wp2;go_ret;exact⟨rfl,rfl⟩
 . go_enter Tryz.func241,Tryz.ntmps241
   go_wp2;go_ret;exact⟨rfl,rfl⟩
theorem Ku(g:Int)(w:Z):Av U 242 #[Y E g] w fun e w'=>e=Aj (Y E (Hr g))/\w=w':=by
 by_cases h:0<=g/\g<12
 . obtain⟨h1,h2⟩:=h
   by_cases h3:g=0
   . subst h3
     rw[show Hr 0=1 from rfl];go_enter Tryz.func242,Tryz.ntmps242;go_wp2_with (go_at_call 241;refine(DE 0 (by decide) (by decide) _).mono ?_;rintro e w' ⟨rfl,rfl⟩)
     go_ret;exact⟨rfl,rfl⟩
   . have hr:Hr g=g*64:=by unfold Hr;rw[Au ⟨h1,h2⟩,Ax h3]
     rw[hr];have h3':(g==0)=X:=(by simp[h3]);clear hr h3;go_enter Tryz.func242,Tryz.ntmps242;go_wp2_with (go_at_call 241;refine(DE g h1 h2 _).mono ?_;rintro e w' ⟨rfl,rfl⟩)
     go_ret;exact⟨rfl,rfl⟩
 . have hr:Hr g= -1:=Ax h
   rw[hr];have H:=wM h;clear hr h;go_enter Tryz.func242,Tryz.ntmps242;go_wp2_with (go_at_call 241;refine(Jn g H.out _).mono ?_;rintro e w' ⟨rfl,rfl⟩)
   go_ret;exact⟨rfl,rfl⟩
theorem jH(g:Int)(h1:0<=g)(h2:g<12):0<=Hr g/\Hr g<=704:=by
 unfold Hr;rw[Au ⟨h1,h2⟩];split <;> omega
theorem JY(g:Int)(w:Z):Av U 243 #[Y E g] w fun e w'=>e=Aj (Y E (PD g))/\w=w':=by
 by_cases h:0<=g/\g<12
 . have hr:PD g=Hr g+1:=Au h
   rw[hr];obtain⟨h1,h2⟩:=h;obtain⟨d1,d2⟩:=jH g h1 h2;clear hr;go_enter Tryz.func243,Tryz.ntmps243
   go_wp2_with (first
    |(go_at_call 241;refine(DE g h1 h2 _).mono ?_;rintro e w' ⟨rfl,rfl⟩)
    |(go_at_call 242;refine(Ku g _).mono ?_;rintro e w' ⟨rfl,rfl⟩))
   go_ret;exact⟨rfl,rfl⟩
 . have hr:PD g= -1:=Ax h
   rw[hr];have H:=wM h;clear hr h;go_enter Tryz.func243,Tryz.ntmps243;go_wp2_with (go_at_call 241;refine(Jn g H.out _).mono ?_;rintro e w' ⟨rfl,rfl⟩)
   go_ret;exact⟨rfl,rfl⟩
theorem da(w:Z):Av U 245 #[] w fun e w'=>e=Aj (Y E 63)/\w=w':=by
 go_enter Tryz.func245,Tryz.ntmps245;go_wp2;go_ret;exact⟨rfl,rfl⟩
def jrnB(n:Int):Bool:=decide (3<=n/\n<43)
theorem SP(n:Int)(w:Z):Av U 244 #[Y E n] w fun e w'=>e=Aj (AP (jrnB n))/\w=w':=by
 by_cases h0:3<=n
 . by_cases h1:n<43
   . rw[show jrnB n=AE from Az ⟨h0,h1⟩]
     go_enter Tryz.func244,Tryz.ntmps244;go_wp2;go_ret;exact⟨rfl,rfl⟩
   . rw[show jrnB n=X from AB (by omega)]
     go_enter Tryz.func244,Tryz.ntmps244;go_wp2;go_ret;exact⟨rfl,rfl⟩
 . rw[show jrnB n=X from AB (by omega)]
   go_enter Tryz.func244,Tryz.ntmps244;go_wp2;go_ret;exact⟨rfl,rfl⟩
theorem ea(n:Int)(hm:n<=9223372036854775807)(h:¬ (0<=I5 n/\I5 n<12))(w:Z):Av U 221 #[Y E n] w fun e w'=>e=Aj (AP (CR n))/\w=w':=by
 have hr:CR n=X:=by
  unfold CR;refine AB ?_;unfold I5 at h;split at h <;> omega
 rw[hr];have H:=wM h;clear hr h;go_enter Tryz.func221,Tryz.ntmps221
 go_wp2_with (first
  |(go_at_call 238;refine(L0 n hm _).mono ?_;rintro e w' ⟨rfl,rfl⟩)
  |(go_at_call 241;refine(Jn _ H.out _).mono ?_;rintro e w' ⟨rfl,rfl⟩))
 go_ret;exact⟨rfl,rfl⟩
theorem qZ(n:Int)(h1:0<=I5 n)(h2:I5 n<12):CR n=(((((n==0) || (n==Hr (I5 n))) || (n==PD (I5 n))) || jrnB n) || (n==63)):=by
 have hn:0<=n:=by unfold I5 at h1;split at h1 <;> omega
 have hg:I5 n=n / 64:=by unfold I5;rw[Ax (by omega)]
 rw[hg] at h1 h2 |-
 rw[Bool.eq_iff_iff];unfold CR jrnB PD Hr;have hc:0<=n / 64/\n / 64<12:=⟨h1,h2⟩;simp only[Au hc,A4,Bool.or_eq_true,Da];by_cases h0:n / 64=0
 . simp only[Au h0];omega
 . simp only[Ax h0];omega
theorem YE(n:Int)(hm:n<=9223372036854775807)(h1:0<=I5 n)(h2:I5 n<12)(w:Z):Av U 221 #[Y E n] w fun e w'=>e=Aj (AP (CR n))/\w=w':=by
 rw[qZ n h1 h2];obtain⟨G,hG⟩:=nm (I5 n);have HGG:Av U 238 #[Y E n] w fun e w'=>e=Aj (Y E G)/\w=w':=by rw[hG];exact L0 n hm w
 rw[<- hG] at h1 h2 |-
 clear hG;obtain⟨D,hD⟩:=nm (Hr G);have HDD:Av U 242 #[Y E G] w fun e w'=>e=Aj (Y E D)/\w=w':=by rw[hD];exact Ku G w
 rw[<- hD];clear hD;obtain⟨O,hO⟩:=nm (PD G);have HOO:Av U 243 #[Y E G] w fun e w'=>e=Aj (Y E O)/\w=w':=by rw[hO];exact JY G w
 rw[<- hO];clear hO;obtain⟨J,hJ⟩:=nm (jrnB n);have HJJ:Av U 244 #[Y E n] w fun e w'=>e=Aj (AP J)/\w=w':=by rw[hJ];exact SP n w
 rw[<- hJ];clear hJ;rcases hb0:(n==0) with _|_
 . rcases hb1:(n==D) with _|_
   . rcases hb2:(n==O) with _|_
     . cases J
       . go_enter Tryz.func221,Tryz.ntmps221
         go_wp2_with (first
          |(go_at_call 238;refine HGG.mono ?_;rintro e w' ⟨rfl,rfl⟩)
          |(go_at_call 241;refine(DE G h1 h2 _).mono ?_;rintro e w' ⟨rfl,rfl⟩)
          |(go_at_call 242;refine HDD.mono ?_;rintro e w' ⟨rfl,rfl⟩)
          |(go_at_call 243;refine HOO.mono ?_;rintro e w' ⟨rfl,rfl⟩)
          |(go_at_call 244;refine HJJ.mono ?_;rintro e w' ⟨rfl,rfl⟩)
          |(go_at_call 245;refine(da _).mono ?_;rintro e w' ⟨rfl,rfl⟩))
         go_ret;exact⟨by simp,rfl⟩
       . go_enter Tryz.func221,Tryz.ntmps221
         go_wp2_with (first
          |(go_at_call 238;refine HGG.mono ?_;rintro e w' ⟨rfl,rfl⟩)
          |(go_at_call 241;refine(DE G h1 h2 _).mono ?_;rintro e w' ⟨rfl,rfl⟩)
          |(go_at_call 242;refine HDD.mono ?_;rintro e w' ⟨rfl,rfl⟩)
          |(go_at_call 243;refine HOO.mono ?_;rintro e w' ⟨rfl,rfl⟩)
          |(go_at_call 244;refine HJJ.mono ?_;rintro e w' ⟨rfl,rfl⟩))
         go_ret;exact⟨rfl,rfl⟩
     . go_enter Tryz.func221,Tryz.ntmps221
       go_wp2_with (first
        |(go_at_call 238;refine HGG.mono ?_;rintro e w' ⟨rfl,rfl⟩)
        |(go_at_call 241;refine(DE G h1 h2 _).mono ?_;rintro e w' ⟨rfl,rfl⟩)
        |(go_at_call 242;refine HDD.mono ?_;rintro e w' ⟨rfl,rfl⟩)
        |(go_at_call 243;refine HOO.mono ?_;rintro e w' ⟨rfl,rfl⟩))
       go_ret;exact⟨rfl,rfl⟩
   . go_enter Tryz.func221,Tryz.ntmps221
     go_wp2_with (first
      |(go_at_call 238;refine HGG.mono ?_;rintro e w' ⟨rfl,rfl⟩)
      |(go_at_call 241;refine(DE G h1 h2 _).mono ?_;rintro e w' ⟨rfl,rfl⟩)
      |(go_at_call 242;refine HDD.mono ?_;rintro e w' ⟨rfl,rfl⟩))
     go_ret;exact⟨rfl,rfl⟩
 . go_enter Tryz.func221,Tryz.ntmps221
   go_wp2_with (first
    |(go_at_call 238;refine HGG.mono ?_;rintro e w' ⟨rfl,rfl⟩)
    |(go_at_call 241;refine(DE G h1 h2 _).mono ?_;rintro e w' ⟨rfl,rfl⟩))
   go_ret;exact⟨rfl,rfl⟩
theorem Yr(n:Int)(hm:n<=9223372036854775807)(w:Z):Av U 221 #[Y E n] w fun e w'=>e=Aj (AP (CR n))/\w=w':=by
 by_cases h:0<=I5 n/\I5 n<12
 . exact YE n hm h.1 h.2 w
 . exact ea n hm h w
theorem Ld(n:Int)(hm:n<=9223372036854775807)(B:Bool)(h:CR n=B)(w:Z):Av U 221 #[Y E n] w fun e w'=>e=Aj (AP B)/\w=w':=by
 rw[<- h];exact Yr n hm w
section
variable {α:Type}{f:α->List I}{s:Nat}
theorem CM:∀ {L:List α},(∀ x∈L,(f x).length=s)->(L.flatMap f).length=L.length*s
 |[],_=>by simp
 |x :: L,h=>by
  rw[CD,AD,CM (fun z hz=>h z (By _ hz)),h x (by simp),Bm,Nat.succ_mul];omega
theorem Gb:∀ {L:List α},(∀ x∈L,(f x).length=s)->∀ (i:Nat) (hi:i<L.length),((L.flatMap f).drop (i*s)).take s=f L[i]
 |[],_,i,hi=>by simp at hi
 |x :: L,h,0,_=>by
  rw[CD,Nat.zero_mul,CP,Do (by rw[h x (by simp)];exact At _),<- h x (by simp),BP];rfl
 |x :: L,h,i+1,hi=>by
  have hx:=h x (by simp);rw[CD,show(i+1)*s=(f x).length+i*s by rw[hx,Nat.succ_mul];omega,List.drop_length_add_append];exact Gb (fun z hz=>h z (By _ hz)) i (by simpa using hi)
theorem I7:∀ {L:List α},(∀ x∈L,(f x).length=s)->∀ (i:Nat) (hi:i<L.length) (y:α),(f y).length=s->splice (L.flatMap f) (i*s) (f y)=(L.set i y).flatMap f
 |[],_,i,hi,_,_=>by simp at hi
 |x :: L,h,0,_,y,hy=>by
  have hx:=h x (by simp);simp only[splice,Nat.zero_mul,List.take_zero,List.nil_append,Br,List.set_cons_zero,CD];rw[hy,<- hx,List.drop_left]
 |x :: L,h,i+1,hi,y,hy=>by
  have hx:=h x (by simp);have ih:=I7 (fun z hz=>h z (By _ hz)) i (by simpa using hi) y hy;rw[List.set_cons_succ,CD,CD,<- ih];simp only[splice];rw[show(i+1)*s=(f x).length+i*s by rw[hx,Nat.succ_mul];omega,DJ,Dt,List.drop_length_add_append,A7]
end
theorem Fk{w:Z}{g o:Nat}{t:Cg}{vs cur:List I}(hg:w.heap[g]? =V (Am cur.toArray t (0,0)))(hl:o+vs.length<=cur.length)(h1:∀ v∈vs,v.oneCell'=AE):
 w.setCells g o vs=w.setRow g (splice cur o vs).toArray:=by
 have a:=run_storeCells_cells (P:=U) g o vs 0 w
  (fun j hj=>by rw[Aq _ _ _ _ _ _ hg];simp;omega)
  (fun j hj=>by simp[Z.frozen?,hg]) h1
 have b:=run_storeCells_at U g o t vs 0 cur.toArray w hg (by simpa using hl) h1;rw[a] at b
 injection b with _ b
 simpa [splice] using b
theorem Fg{w:Z}{g o n:Nat}{t:Cg}{cur:List I}(hg:w.heap[g]? =V (Am cur.toArray t (0,0)))(hl:o+n<=cur.length):w.there g o n:=fun j hj=>by
 refine⟨by rw[Aq _ _ _ _ _ _ hg];simp;omega,by simp[Z.frozen?,hg]⟩
theorem Ev{w:Z}{g o:Nat}{t:Cg}{vs cur:List I}(hg:w.heap[g]? =V (Am cur.toArray t (0,0)))(h:(cur.drop o).take vs.length=vs):w.rangeAt g o vs:=fun j v hv=>by
 rw[Aq _ _ _ _ _ _ hg];have hj:=(Bb.1 hv).1;rw[<- h,AZ,Au hj,Bk] at hv
 simpa using hv
end
section
open Go.RowKit BM
def OwSl(w:Z)(v:I)(O:List (Int × Int)):Prop:=
 OwB O/\((v=Ak R 0 0/\O=[])\/∃ a cap,v=Ak (V a) O.length cap/\∀ j,j<O.length->a.block<w.heap.size/\a.spot=R/\
  w.cell? ⟨a.block,a.off+j*2,R⟩=V (Y .u16 (O.getD j (0,0)).1)/\w.cell? ⟨a.block,a.off+j*2+1,R⟩=V (Y .u16 (O.getD j (0,0)).2))
theorem OwSl.below{w w':Z}{v:I}{O:List (Int × Int)}(h:OwSl w v O)(hb:Ap w.heap.size w w'):OwSl w' v O:=by
 refine⟨h.1,?_⟩;rcases h.2 with h| ⟨a,cap,hv,hc⟩
 . exact AU h
 . refine AW ⟨a,cap,hv,fun j hj=>?_⟩
   obtain⟨h1,h2,h3,h4⟩:=hc j hj;exact⟨AA h1 hb.size,h2,by rw[hb.cell (p:=⟨a.block,a.off+j*2,R⟩) h1,h3],by rw[hb.cell (p:=⟨a.block,a.off+j*2+1,R⟩) h1,h4]⟩
theorem OwSl.shape{w:Z}{v:I}{O:List (Int × Int)}(h:OwSl w v O):∃ ao cap,v=Ak ao O.length cap:=by
 rcases h.2 with⟨hv,hk⟩| ⟨a,cap,hv,_⟩
 . exact⟨R,0,by rw[hv,hk];rfl⟩
 . exact⟨V a,cap,hv⟩
theorem OwSl.at{w:Z}{v:I}{O:List (Int × Int)}(h:OwSl w v O)(hO:0<O.length):∃ b off cap,v=Ak (V ⟨b,off,R⟩) O.length cap/\b<w.heap.size/\
 ∀ j,j<O.length->w.cell? ⟨b,off+j*2,R⟩=V (Y .u16 (O.getD j (0,0)).1)/\w.cell? ⟨b,off+j*2+1,R⟩=V (Y .u16 (O.getD j (0,0)).2):=by
 rcases h.2 with⟨_,hk⟩| ⟨⟨b,off,spot⟩,cap,hv,hc⟩
 . rw[hk] at hO;simp at hO
 . obtain⟨h1,h2,_⟩:=hc 0 hO
   obtain rfl:spot=R:=h2;exact⟨b,off,cap,hv,h1,fun j hj=>(hc j hj).2.2⟩
def cO(x:Int × Int):List I:=[Y .u16 x.1,Y .u16 x.2]
def Fy(O:List (Int × Int)):List I:=O.flatMap cO
theorem LX:∀ x:Int × Int,(cO x).length=2:=fun _=>rfl
theorem DF(O:List (Int × Int)):(Fy O).length=O.length*2:=CM fun x _=>LX x
theorem N4(O P:List (Int × Int)):Fy (O ++ P)=Fy O ++ Fy P:=DW
theorem My(O:List (Int × Int))(j:Nat)(h:j<O.length):(Fy O)[j*2]? =V (Y .u16 (O.getD j (0,0)).1)/\(Fy O)[j*2+1]? =V (Y .u16 (O.getD j (0,0)).2):=by
 have hg:=Gb (f:=cO) (s:=2) (L:=O) (fun x _=>LX x) j h;have e:O.getD j (0,0)=O[j]:=by simp[h]
 rw[e];have h0:=Bt (fun z=>z[0]?) hg;have h1:=Bt (fun z=>z[1]?) hg;simp only[AZ,Bk,Nat.add_zero] at h0 h1;rw[Au (by omega)] at h0 h1;exact⟨h0,h1⟩
def OwR(w:Z)(B:Nat)(v:I)(O:List (Int × Int)):Prop:=OwB O/\w.ownsRow B 200 2 v O.length (Fy O)
theorem OwR.sl{w:Z}{B:Nat}{v:I}{O:List (Int × Int)}(h:OwR w B v O):OwSl w v O:=by
 refine⟨h.1,?_⟩;rcases h.2.2 with⟨hv,hl⟩| ⟨g,cap,cur,hv,hg,hh,Ii,Jq,Jr,ht⟩
 . exact AU ⟨hv,AO hl⟩
 . refine AW ⟨_,cap,hv,fun j hj=>⟨(Ah.1 hh).1,rfl,?_⟩⟩
   obtain⟨h1,h2⟩:=My O j hj;rw[<- ht,AZ] at h1 h2;rw[Au (by omega)] at h1 h2;rw[Br,Aq _ _ _ _ _ _ hh,Aq _ _ _ _ _ _ hh];exact⟨by simpa using h1,by simpa using h2⟩
theorem OwR.more{w:Z}{B B':Nat}{v:I}{O:List (Int × Int)}(h:OwR w B v O)(hB:B'<=B):OwR w B' v O:=by
 refine⟨h.1,h.2.1,?_⟩;rcases h.2.2 with h| ⟨g,cap,cur,hv,hg,r⟩
 . exact AU h
 . exact AW ⟨g,cap,cur,hv,AI hB hg,r⟩
theorem OwR.below{w w':Z}{B:Nat}{v:I}{O:List (Int × Int)}(h:OwR w B v O)(hb:Ap w.heap.size w w'):OwR w' B v O:=by
 refine⟨h.1,h.2.1,?_⟩;rcases h.2.2 with h| ⟨g,cap,cur,hv,hg,hh,r⟩
 . exact AU h
 . exact AW ⟨g,cap,cur,hv,hg,by rw[hb.block g (Ah.1 hh).1];exact hh,r⟩
theorem T9:(U.info? 200).map (fun i=>(i.zero,i.size,i.bytes))=V (V (BN #[Y .u16 0,Y .u16 0]),2,4):=by kernel_rfl
theorem IZ(w1:Z)(i j:Int)(hi:0<=i/\i<=65535)(hj:0<=j/\j<=65535){ops:Array BE}{rest:List BE}{o:BE}{a:Act}{Q:Exit->Act->Z->Prop}(Du:o.guard=R)(s y:Operand)
 (ho:o.op=.call { callee:=.builtin .append,args:=#[s,y],argTypes:=#[146,146] })
 (B:Nat) (v:I) (O:List (Int × Int)) (hs:a.eval s=v) (hown:OwR w1 B v O) (hO:O.length<=1000000) (hy:a.eval y=Ak (V ⟨w1.heap.size,0,R⟩) 1 1) (hB:B<=w1.heap.size)
 (h:∀ v' w',OwR w' B v' (O ++ [(i,j)])->Ap B w1 w'->Cf U ops Q rest (a.put o.dst v') w'):Cf U ops Q (o :: rest) a (w1.alloc (Am #[Y .u16 i,Y .u16 j] 200)):=by
 obtain⟨t,h2,h3,h4,h5⟩:=Bf T9;have hbel:Ap w1.heap.size w1 (w1.alloc (Am #[Y .u16 i,Y .u16 j] 200)):=As _ _;have QW:(w1.alloc (Am #[Y .u16 i,Y .u16 j] 200)).heap[w1.heap.size]? =V (Am #[Y .u16 i,Y .u16 j] 200 (0,0)):=Ar w1 _;have hf:=hown.below hbel;refine FU _ Du s y 146 ho B 200 t _ 2 4 Tryz.underlying146 h2 h3 h4 h5 rfl (by decide) v O.length _ hs hf.2 ⟨w1.heap.size,0,R⟩ 1 1 [Y .u16 i,Y .u16 j] hy rfl ?_ ?_ (by simp only[maxLen];omega) (by omega) (by simp;omega) fun v' w' h6 h7 _=>?_
 . intro m u hm
   have hm2:m<2:=by simpa using (Bb.1 hm).1
   rw[BY,Br,Aq _ _ _ _ _ _ QW,<- hm];have:m=0\/m=1:=(by omega);rcases this with rfl|rfl <;> rfl
 . intro u hu
   simp at hu;rcases hu with rfl|rfl <;> rfl
 . refine h v' w' ⟨JS fun m hm=>?_,?_⟩ ((hbel.mono hB).trans ((AC _ _).grown h7 (by simp;omega) fun k hk=>(BO hf.2 k hk).1))
   . by_cases e:m<O.length
     . have:=hown.1 m
       rw[An,BH e,<- An];exact this
     . have e2:m=O.length:=by simp at hm;omega
       subst e2;rw[An,BR (At _)];simpa using ⟨hi,hj⟩
   . rw[AD,N4];exact h6
end
section
open Go.RowKit
theorem Ke(b:Int)(hm:b<=9223372036854775807)(w:Z):Av U 110 #[Y E b] w fun e w'=>e=Aj (AP (CY b))/\w=w':=by
 by_cases h1:64<=b
 . by_cases h3:b<=768
   . have h0:0<=b:=by omega
     by_cases h2:b%64=0
     . have hr:CY b=AE:=Az (by omega)
       rw[hr];have h2':(b%64==0)=AE:=(by simp[h2]);clear hr h2;go_enter Tryz.func110,Tryz.ntmps110;go_wp2;go_ret;exact⟨rfl,rfl⟩
     . have hr:CY b=X:=AB (by omega)
       rw[hr];have h2':(b%64==0)=X:=(by simp[h2]);clear hr h2;go_enter Tryz.func110,Tryz.ntmps110;go_wp2;go_ret;exact⟨rfl,rfl⟩
   . have hr:CY b=X:=AB (by omega)
     rw[hr];clear hr;go_enter Tryz.func110,Tryz.ntmps110;go_wp2;go_ret;exact⟨rfl,rfl⟩
 . have hr:CY b=X:=AB (by omega)
   rw[hr];clear hr;go_enter Tryz.func110,Tryz.ntmps110;go_wp2;go_ret;exact⟨rfl,rfl⟩
theorem Wo(k:Nat)(h1:1<=k)(h2:k<=12)(w:Z):Av U 110 #[Y E (64*(k:Int))] w fun e w'=>e=Aj (AP AE)/\w=w':=by
 have:=Ke (64*(k:Int)) (by omega) w;rw[SS k h1 h2] at this;exact this
theorem Zk(b:Int)(hm:b<=9223372036854775807)(h:CY b=X)(w:Z):Av U 110 #[Y E b] w fun e w'=>e=Aj (AP X)/\w=w':=by
 have:=Ke b hm w;rw[h] at this;exact this
theorem Wx(b:Int)(hm:b<=9223372036854775807)(w:Z):Av U 67 #[Y E b] w fun e w'=>e=Aj (Y E (MR b))/\w=w':=by
 cases hb:CY b
 . have hr:MR b=0:=by unfold MR;rw[Ax (by simp[hb])]
   rw[hr];have HB:=wM hb;clear hb hr;go_enter Tryz.func67,Tryz.ntmps67;go_wp2_with (go_at_call 110;refine(Zk b hm HB.out _).mono ?_;rintro e w' ⟨rfl,rfl⟩)
   go_ret;exact⟨rfl,rfl⟩
 . obtain⟨k,h1,h2,rfl⟩:=Tv hb
   have hr:MR (64*(k:Int))=k:=(by unfold MR;rw[Au hb];omega);rw[hr];clear hr hb hm;go_enter Tryz.func67,Tryz.ntmps67;go_wp2_with (go_at_call 110;refine(Wo k h1 h2 _).mono ?_;rintro e w' ⟨rfl,rfl⟩)
   go_ret;exact⟨av (by omega),rfl⟩
theorem Nx(g:Int)(w:Z):Av U 71 #[Y E g] w fun e w'=>e=Aj (Y E (Hr g))/\w=w':=by
 by_cases h1:g<0
 . have hr:Hr g= -1:=Ax (by omega)
   rw[hr];clear hr;go_enter Tryz.func71,Tryz.ntmps71;go_wp2;go_ret;exact⟨rfl,rfl⟩
 . by_cases h2:11<g
   . have hr:Hr g= -1:=Ax (by omega)
     rw[hr];clear hr;go_enter Tryz.func71,Tryz.ntmps71;go_wp2;go_ret;exact⟨rfl,rfl⟩
   . by_cases h3:g=0
     . subst h3
       rw[show Hr 0=1 from rfl];clear h1 h2;go_enter Tryz.func71,Tryz.ntmps71;go_wp2;go_ret;exact⟨rfl,rfl⟩
     . have hr:Hr g=g*64:=by unfold Hr;rw[Au ⟨by omega,by omega⟩,Ax h3]
       rw[hr];have h3':(g==0)=X:=(by simp[h3]);have h4:0<=g:=(by omega);have h5:g<=11:=(by omega);clear hr h3;go_enter Tryz.func71,Tryz.ntmps71;go_wp2;go_ret;exact⟨av (by omega),rfl⟩
theorem UQ(g:Int)(w:Z):Av U 72 #[Y E g] w fun e w'=>e=Aj (Y E (PD g))/\w=w':=by
 by_cases h:0<=g/\g<12
 . have hr:PD g=Hr g+1:=Au h
   rw[hr];obtain⟨h1,h2⟩:=h;obtain⟨d1,d2⟩:=jH g h1 h2;clear hr;go_enter Tryz.func72,Tryz.ntmps72;go_wp2_with (go_at_call 71;refine(Nx g _).mono ?_;rintro e w' ⟨rfl,rfl⟩)
   go_ret;exact⟨rfl,rfl⟩
 . have hr:PD g= -1:=Ax h
   have hd:Hr g= -1:=Ax h;rw[hr];have HD:∀ w,Av U 71 #[Y E g] w fun e w'=>e=Aj (Y E (-1))/\w=w':=fun w=>by
    have:=Nx g w;rw[hd] at this;exact this
   clear hr h hd;go_enter Tryz.func72,Tryz.ntmps72;go_wp2_with (go_at_call 71;refine(HD _).mono ?_;rintro e w' ⟨rfl,rfl⟩)
   go_ret;exact⟨rfl,rfl⟩
theorem Yo(n:Int)(hm:n<=9223372036854775807)(w:Z):Av U 154 #[Y E n] w fun e w'=>e=Aj (AP (CR n))/\w=w':=by
 by_cases h1:n<0
 . have hr:CR n=X:=AB (by omega)
   rw[hr];clear hr;go_enter Tryz.func154,Tryz.ntmps154;go_wp2;go_ret;exact⟨rfl,rfl⟩
 . by_cases h2:768<=n
   . have hr:CR n=X:=AB (by omega)
     rw[hr];clear hr;go_enter Tryz.func154,Tryz.ntmps154;go_wp2;go_ret;exact⟨rfl,rfl⟩
   . by_cases h3:n<64
     . by_cases h4:n<43
       . have hr:CR n=AE:=Az (by omega)
         rw[hr];clear hr;go_enter Tryz.func154,Tryz.ntmps154;go_wp2;go_ret;exact⟨rfl,rfl⟩
       . have hr:CR n=(n==63):=by rw[Bool.eq_iff_iff];unfold CR;simp only[A4,Da];omega
         rw[hr];clear hr;go_enter Tryz.func154,Tryz.ntmps154;go_wp2;go_ret;exact⟨by simp,rfl⟩
     . have h0:0<=n:=by omega
       have hr:CR n=decide (n%64<2):=(by rw[Bool.eq_iff_iff];unfold CR;simp only[A4];omega);rw[hr];clear hr;go_enter Tryz.func154,Tryz.ntmps154;go_wp2;go_ret;exact⟨by simp,rfl⟩
theorem Le(n:Int)(hm:n<=9223372036854775807)(B:Bool)(h:CR n=B)(w:Z):Av U 154 #[Y E n] w fun e w'=>e=Aj (AP B)/\w=w':=by
 rw[<- h];exact Yo n hm w
def C7(O:List (Int × Int))(j:Nat):Bool:=decide ((O.getD j (0,0)).1=0)
def Dy(O:List (Int × Int)):Nat->Nat
 |0=>0
 |k+1=>Dy O k+(if CR (k:Int)=X/\C7 O k=X then 1 else 0)
def RSp(w:Z)(M:Nat->Prop)(p:I)(n:Int)(O:List (Int × Int)):Prop:=
 ∃ b v,p=Al (V ⟨b,0,R⟩)/\w.heap[b]? =V (Am #[Y E n,v] 148 (0,0))/\OwR w 0 v O/\(∀ k,M k ↔ k=b\/v.ownBlock=V k)
section
variable {w:Z}{M:Nat->Prop}{p:I}{n:Int}{O:List (Int × Int)}
theorem RSp.cells(h:RSp w M p n O)(h0:0<O.length):∃ b g off cap,p=Al (V ⟨b,0,R⟩)/\w.cell? ⟨b,0,R⟩=V (Y E n)/\w.cell? ⟨b,1,R⟩=V (Ak (V ⟨g,off,R⟩) O.length cap)/\
 ∀ j,j<O.length->w.cell? ⟨g,off+j*2,R⟩=V (Y .u16 (O.getD j (0,0)).1)/\w.cell? ⟨g,off+j*2+1,R⟩=V (Y .u16 (O.getD j (0,0)).2):=by
 obtain⟨b,v,rfl,hb,ho,_⟩:=h;obtain⟨g,off,cap,rfl,_,hc⟩:=ho.sl.at h0;refine⟨b,g,off,cap,rfl,?_,?_,fun j hj=>?_⟩
 . rw[Aq _ _ _ _ _ _ hb];rfl
 . rw[Aq _ _ _ _ _ _ hb];rfl
 . exact hc j hj
end
theorem Ix(size:Int)(w:Z)(h:1<=size/\size<=8):
 Av U 174 #[Y E size] w fun e w'=>e=Aj (AP AE)/\w=w':=by
 obtain⟨h1,h2⟩:=h;go_enter Tryz.func174,Tryz.ntmps174;go_wp2;go_ret;exact⟨rfl,rfl⟩
theorem XI(size:Int)(w:Z)(h:¬ (1<=size/\size<=8)):
 Av U 174 #[Y E size] w fun e w'=>e=Aj (AP X)/\w=w':=by
 by_cases h1:1<=size
 . have h2:¬ size<=8:=fun h2=>h ⟨h1,h2⟩
   go_enter Tryz.func174,Tryz.ntmps174;go_wp2;go_ret;exact⟨rfl,rfl⟩
 . go_enter Tryz.func174,Tryz.ntmps174
   go_wp2;go_ret;exact⟨rfl,rfl⟩
theorem FK{w:Z}{v:I}{l:List Int}(hs:BSl w v l)(hl:l.length<=140737488355300)(n size:Int)(k:Nat)(hk:k<=8)(Oq:1<=k)(Ed:size=k)(h0:0<=n)(h1:n<18446744073709551616):
 Av U 133 #[v,Y .u64 n,Y E size] w (JQ w (l ++ BT n k)):=by
 subst Ed;obtain⟨ao,cap,rfl,Cx⟩:=hs.shape;have hby:=hs.1;have Js:=Fi hs (w1:=w.alloc (Am (AK (l.length+k) (Y .u8 0)) 5)) (fun p hp=>C9 w _ p hp) l.length;rw[BP] at Js;obtain⟨N,hN⟩:=nm l.length;rw[<- hN] at hl Cx Js |-
 have hg2:(w.alloc (Am (AK (N+k) (Y .u8 0)) 5)).heap[w.heap.size]? =V (Am (Aw (N+k) (Y .u8 0)).toArray 5 (0,0)):=by
  rw[Ar];simp
 have hcl:(l.map (Y .u8)).length=N:=by rw[Ba,<- hN]
 have hmm:N=Nat.min N N:=by simp
 have GZ:0+(l.map (Y .u8)).length<=(Aw (N+k) (Y .u8 0)).length:=by rw[Ba,<- hN];simp
 have HN:=wM hN;have HG:=wM hg2;have HC:=wM hcl;have HM:=wM hmm;have HF:=wM GZ;have HP:=wM Js;have HBY:=wM hby;have hbl:Ap w.heap.size w (w.alloc (Am (AK (N+k) (Y .u8 0)) 5)):=(AC _ _).alloc (At _) _;have hkm:k<=9223372036854775807:=by omega
 have hnk:N+k<=200000000000000:=by omega
 clear hN hg2 hcl hmm GZ Js hby hs;go_enter Tryz.func133,Tryz.ntmps133
 go_wp2_with (first
  |(go_at_call 174;refine(Ix _ _ ⟨by omega,by omega⟩).mono ?_;rintro e w' ⟨rfl,rfl⟩)
  |(at_make;refine Dx _ rfl _ _ rfl _ _ N (N+k) rfl rfl rfl (by push_cast;rfl) (by omega) (by omega) ?_)
  |(with_reducible refine C6 rfl _ _ 77 77 rfl 5 Tryz.underlying77 (by kernel_rfl) _ _ _ _ _ _ rfl rfl w.heap.size 0 (Aw (N+k) (Y .u8 0)) 5 HG.out (l.map (Y .u8)) N HC.out HM.out (fun h=>⟨rfl,HP.out h⟩) HF.out (ints_oneCell _ _) ?_;intro w2 HG3 HW2))
 have hb2:Ap w.heap.size w w2:=hbl.trans (HW2.below (At _));have hob:OB w2 w.heap.size (Ak (V ⟨w.heap.size,0,R⟩) N (N+k)) l:=by
  have h3:=HG3.out;rw[HN.out];refine OB.of_heap (rest:=Aw k (Y .u8 0)) HBY.out (At _) ?_ (by simp) (by simp only[maxLen];have:=HN.out;omega);rw[h3];simp[splice,HN.out]
 clear HG3 HW2
 go_loopw [1,7,22] (fun c u i wr=>∃ (j:Nat) (m:Int),j<=k/\i=Y E j/\c=Y .u64 m/\0<=m/\m<18446744073709551616/\Hid (m=n / 2 ^ (8*j))/\Hid (OB wr w.heap.size u (l ++ BT n j))/\Ap w.heap.size w wr)
  (fun _ _ i _=>k-(intOf i).toNat)
 case atStart=>exact⟨0,n,by omega,rfl,rfl,h0,h1,by simp[Hid],by simp[Hid,Hh];exact hob,hb2⟩
 case round=>
  obtain⟨j,m,hj,rfl,rfl,Ik,hm1,HM2,HO,hbr⟩:=hrel;by_cases hlt:j<k
  . have hlen:(l ++ BT n j).length+1<=140737488355328:=by rw[AD,Bc,<- HN.out];omega
    have HLE:=wM hlen;clear hlen;go_wp2_with (at_builtin;refine FO wr _ rfl _ _ rfl w.heap.size _ _ rfl HO.out ⟨by omega,by omega⟩ rfl HLE.out hbr.size ?_;intro v' w3 hob3 hb3)
    go_roundw
    case rel=>
     refine⟨j+1,m / 256,by omega,by go_num,rfl,by omega,by omega,?_,?_,hbr.trans (hb3)⟩
     . show _=_
       rw[HM2.out,<- kE];rfl
     . show OB _ _ _ _
       rw[Hf,<- A7,<- HM2.out];exact hob3
    case measure=>simp[intOf];omega
  . go_wp2_with fail
    go_ret;obtain rfl:j=k:=by omega
    exact⟨_,rfl,HO.out,hbr⟩
theorem Z7{w:Z}{b off cap:Nat}{l:List Int}(hby:Fv l)(hl:l.length<=140737488355300)
 (hc:∀ j,j<l.length->w.cell? ⟨b,off+j,R⟩=V (Y .u8 (l.getD j 0))) (a k:Nat) (Oq:1<=k) (hk:k<=8) (pa:a+k<=l.length):
 Av U 183 #[Ak (V ⟨b,off,R⟩) l.length cap,Y E a,Y E k] w fun e w'=>e=Aj (AH #[Y .u64 (Cl l a k),AP AE])/\w=w':=by
 obtain⟨N,hN⟩:=nm l.length;rw[<- hN] at hl hc pa |-
 have HN:=wM hN;have HC:=wM hc;have HB:=wM (C3 hby);have HBY:=wM hby;clear hN hc hby;go_enter Tryz.func183,Tryz.ntmps183;go_wp2_with (go_at_call 174;refine(Ix _ _ ⟨by omega,by omega⟩).mono ?_;rintro e w' ⟨rfl,rfl⟩)
 go_loop [8,9] (fun c i=>∃ (j:Nat) (m:Int),j<=k/\i=Y E ((j:Int)-1)/\c=Y .u64 m/\Hid (m=Cl l (a+j) (k-j)))
  (fun _ i=>(intOf i+1).toNat)
 case atStart=>exact⟨k,0,by omega,rfl,rfl,by simp[Hid,RG]⟩
 case round=>
  obtain⟨j,m,hj,rfl,rfl,HM⟩:=hrel;have hb:=EL HB.out (a+j) (k-j);rw[<- HM.out] at hb;by_cases hlt:1<=j
  . have hp:=Hm (show k-j<=7 by omega)
    have hm1:m<72057594037927936:=(by omega);have Ik:=hb.1;have hx:=HBY.out (a+j-1);have MW:=HC.out (a+j-1) (by omega);obtain⟨x,hx'⟩:=nm (l.getD (a+j-1) 0);rw[<- hx'] at hx MW;have HX:=wM hx';clear hx' hb hp;have e1:(a:Int)+((j:Int)-1)<(N:Int):=(by omega);have e2:((a:Int)+((j:Int)-1)).toNat=a+j-1:=(by omega);go_wp2_with fail
    go_round
    case rel=>
     refine⟨j-1,_,by omega,by congr 1;omega,rfl,?_⟩;show _=_
     have h8:=rN m x 8 Ik hx.1 (by omega) (by omega) (by omega);rw[show m*2 ^ 8=m*256 from rfl] at h8;rw[h8,show k-(j-1)=k-j+1 by omega,Ss l _ _ (by have:=HN.out;omega),show a+(j-1)=a+j-1 by omega,<- HX.out,show a+j-1+1=a+j by omega,<- HM.out];omega
    case measure=>simp[intOf];omega
  . go_wp2_with fail
    go_ret2;obtain rfl:j=0:=by omega
    exact⟨by rw[HM.out];simp,rfl⟩
theorem nH{w:Z}{ao:Option Addr}{len cap:Nat}(hl:len<=140737488355300)(a k:Int)(h0: -9223372036854775808<=a)(h1:a<=9223372036854775807)(h:¬ (1<=k/\k<=8/\0<=a/\a+k<=len)):
 Av U 183 #[Ak ao len cap,Y E a,Y E k] w fun e w'=>e=Aj (AH #[Y .u64 0,AP X])/\w=w':=by
 by_cases hk:1<=k/\k<=8
 . by_cases ha:0<=a
   . have hh:(len:Int)-k<a:=by omega
     have rW:=hk.2;have Oq:=hk.1;go_enter Tryz.func183,Tryz.ntmps183;go_wp2_with (go_at_call 174;refine(Ix _ _ hk).mono ?_;rintro e w' ⟨rfl,rfl⟩)
     go_ret2;exact⟨rfl,rfl⟩
   . have ha':a<0:=by omega
     go_enter Tryz.func183,Tryz.ntmps183;go_wp2_with (go_at_call 174;refine(Ix _ _ hk).mono ?_;rintro e w' ⟨rfl,rfl⟩)
     go_ret2;exact⟨rfl,rfl⟩
 . go_enter Tryz.func183,Tryz.ntmps183
   go_wp2_with (go_at_call 174;refine(XI _ _ hk).mono ?_;rintro e w' ⟨rfl,rfl⟩)
   go_ret2;exact⟨rfl,rfl⟩
theorem bP{w:Z}{b off cap:Nat}{l:List Int}(hl:l.length<=140737488355300)(hby:Fv l)
 (hc:∀ j,j<l.length->w.cell? ⟨b,off+j,R⟩=V (Y .u8 (l.getD j 0))):
 Av U 184 #[Ak (V ⟨b,off,R⟩) l.length cap] w fun e w'=>e=Aj (Y .u32 (Fq l))/\w=w':=by
 obtain⟨N,hN⟩:=nm l.length;rw[<- hN] at hl hc |-
 have HN:=wM hN;have HC:=wM hc;have HBY:=wM hby;clear hN hc hby;go_enter Tryz.func184,Tryz.ntmps184;go_wp2_with fail
 go_loop [3,8] (fun c i=>∃ (j:Nat) (m:Int),j<=N/\i=Y E j/\c=Y .u32 m/\0<=m/\m<4294967296/\Hid (m=Fq (l.take j))) (fun _ i=>N-(intOf i).toNat)
 case atStart=>exact⟨0,_,by omega,rfl,rfl,by omega,by omega,rfl⟩
 case round=>
  obtain⟨j,m,hj,rfl,rfl,Ik,hm1,HM⟩:=hrel;by_cases hlt:j<N
  . have hx:=HBY.out j
    have MW:=HC.out j hlt;obtain⟨x,hx'⟩:=nm (l.getD j 0);rw[<- hx'] at hx MW;have HX:=wM hx';clear hx';go_wp2_with fail
    go_round
    case rel=>
     refine⟨j+1,_,by omega,by go_num,rfl,(FC m x).1,(FC m x).2,?_⟩;show _=_
     rw[RE l j (by have:=HN.out;omega),<- HM.out,<- HX.out];rfl
    case measure=>simp[intOf];omega
  . go_wp2_with fail
    go_ret;exact⟨Jd (by rw[HM.out,AR (by have:=HN.out;omega)]),rfl⟩
theorem fb{w:Z}{ao:Option Addr}{cap:Nat}:
 Av U 184 #[Ak ao 0 cap] w fun e w'=>e=Aj (Y .u32 (Fq []))/\w=w':=by
 go_enter Tryz.func184,Tryz.ntmps184;go_wp2_with fail
 refine wp_loop_rounds 1 ?_;rw[rounds_succ];go_wp2_with fail
 go_ret;exact⟨rfl,rfl⟩
theorem ky{w:Z}{v:I}{l:List Int}(hs:BSl w v l)(hl:l.length<=140737488355300):
 Av U 184 #[v] w fun e w'=>e=Aj (Y .u32 (Fq l))/\w=w':=by
 by_cases h0:l.length=0
 . obtain⟨ao,cap,rfl,_⟩:=hs.shape
   obtain rfl:l=[]:=AO h0;exact fb
 . rcases hs.2 with⟨_,rfl⟩| ⟨⟨b,off,spot⟩,cap,rfl,_,hc⟩
   . simp at h0
   . obtain rfl:spot=R:=(hc 0 (by omega)).2.1
     exact bP hl hs.1 fun j hj=>(hc j hj).2.2
theorem fZ{w:Z}{b off cap:Nat}{l:List Int}(hl:l.length<=140737488355300)(hby:Fv l)
 (hc:∀ j,j<l.length->w.cell? ⟨b,off+j,R⟩=V (Y .u8 (l.getD j 0))):
 Av U 155 #[Ak (V ⟨b,off,R⟩) l.length cap] w fun e w'=>e=Aj (Y .u32 (Fq l))/\w=w':=by
 obtain⟨N,hN⟩:=nm l.length;rw[<- hN] at hl hc |-
 have HN:=wM hN;have HC:=wM hc;have HBY:=wM hby;clear hN hc hby;go_enter Tryz.func155,Tryz.ntmps155;go_wp2_with fail
 go_loop [3,7] (fun c i=>∃ (j:Nat) (m:Int),j<=N/\i=Y E j/\c=Y .u32 m/\0<=m/\m<4294967296/\Hid (m=Fq (l.take j))) (fun _ i=>N-(intOf i).toNat)
 case atStart=>exact⟨0,_,by omega,rfl,rfl,by omega,by omega,rfl⟩
 case round=>
  obtain⟨j,m,hj,rfl,rfl,Ik,hm1,HM⟩:=hrel;by_cases hlt:j<N
  . have hx:=HBY.out j
    have MW:=HC.out j hlt;obtain⟨x,hx'⟩:=nm (l.getD j 0);rw[<- hx'] at hx MW;have HX:=wM hx';clear hx';go_wp2_with fail
    go_round
    case rel=>
     refine⟨j+1,_,by omega,by go_num,rfl,(FC m x).1,(FC m x).2,?_⟩;show _=_
     rw[RE l j (by have:=HN.out;omega),<- HM.out,<- HX.out];rfl
    case measure=>simp[intOf];omega
  . go_wp2_with fail
    go_ret;exact⟨Jd (by rw[HM.out,AR (by have:=HN.out;omega)]),rfl⟩
theorem dP{w:Z}{ao:Option Addr}{cap:Nat}:
 Av U 155 #[Ak ao 0 cap] w fun e w'=>e=Aj (Y .u32 (Fq []))/\w=w':=by
 go_enter Tryz.func155,Tryz.ntmps155;go_wp2_with fail
 refine wp_loop_rounds 1 ?_;rw[rounds_succ];go_wp2_with fail
 go_ret;exact⟨rfl,rfl⟩
theorem kY{w:Z}{v:I}{l:List Int}(hs:BSl w v l)(hl:l.length<=140737488355300):
 Av U 155 #[v] w fun e w'=>e=Aj (Y .u32 (Fq l))/\w=w':=by
 by_cases h0:l.length=0
 . obtain⟨ao,cap,rfl,_⟩:=hs.shape
   obtain rfl:l=[]:=AO h0;exact dP
 . rcases hs.2 with⟨_,rfl⟩| ⟨⟨b,off,spot⟩,cap,rfl,_,hc⟩
   . simp at h0
   . obtain rfl:spot=R:=(hc 0 (by omega)).2.1
     exact fZ hl hs.1 fun j hj=>(hc j hj).2.2
def PI(l:List Int)(a k:Int):Int:=if 1<=k/\k<=8/\0<=a/\a+k<=l.length then Cl l a.toNat k.toNat else 0
def dh(l:List Int)(a k:Int):Bool:=decide (1<=k/\k<=8/\0<=a/\a+k<=l.length)
theorem MC{w:Z}{v:I}{l:List Int}(hs:BSl w v l)(hl:l.length<=140737488355300)(a k:Int)(h0: -9223372036854775808<=a)(h1:a<=9223372036854775807):
 Av U 183 #[v,Y E a,Y E k] w fun e w'=>e=Aj (AH #[Y .u64 (PI l a k),AP (dh l a k)])/\w=w':=by
 by_cases h:1<=k/\k<=8/\0<=a/\a+k<=l.length
 . rcases hs.2 with⟨_,rfl⟩| ⟨⟨b,off,spot⟩,cap,rfl,_,hc⟩
   . simp at h;omega
   . obtain rfl:spot=R:=(hc 0 (by omega)).2.1
     have:=Z7 (cap:=cap) hs.1 hl (fun j hj=>(hc j hj).2.2) a.toNat k.toNat (by omega) (by omega) (by omega);rw[show((a.toNat:Nat):Int)=a by omega,show((k.toNat:Nat):Int)=k by omega] at this;simp only[PI,dh,Au h,Az h];exact this
 . obtain⟨ao,cap,rfl,_⟩:=hs.shape
   simp only[PI,dh,Ax h,AB h];exact nH hl a k h0 h1 h
theorem Im{w:Z}{v:I}{l:List Int}(hs:BSl w v l)(hl:l.length<=140737488355300)(n size:Int)(k:Nat)(hk:k<=8)(Oq:1<=k)(Ed:size=k)(h0:0<=n)(h1:n<18446744073709551616):
 Av U 112 #[v,Y .u64 n,Y E size] w (JQ w (l ++ BT n k)):=by
 subst Ed;obtain⟨ao,cap,hv,_⟩:=hs.shape;have hlen:([]:List Int).length+l.length<=140737488355328:=by simp;omega
 obtain⟨N,hN⟩:=nm l.length;rw[<- hN] at hv hl;subst hv;have HS:=wM hs;have HL:=wM hlen;have HN:=wM hN;clear hs hlen hN;go_enter Tryz.func112,Tryz.ntmps112;go_wp2_with (at_builtin;refine BQ _ rfl _ _ rfl w.heap.size _ [] rfl (PK w) w _ l rfl HS.out (fun p hp=>C9 w _ p hp) HL.out (by simp) ?_;intro v2 w2 hob2 hb2 _)
 have hbe:Ap w.heap.size w w2:=((AC _ _).alloc (At _) _).trans hb2;rw[List.nil_append] at hob2;clear hb2
 go_loopw [7,20] (fun u i wr=>∃ j:Nat,j<=k/\i=Y E j/\Hid (OB wr w.heap.size u (l ++ BT n j))/\Ap w.heap.size w wr)
  (fun _ i _=>k-(intOf i).toNat)
 case atStart=>exact⟨0,by omega,rfl,by simp[Hid,Hh];exact hob2,hbe⟩
 case round=>
  obtain⟨j,hj,rfl,HO,hbr⟩:=hrel;by_cases hlt:j<k
  . have hlen:(l ++ BT n j).length+1<=140737488355328:=by rw[AD,Bc,<- HN.out];omega
    have HLE:=wM hlen;have hx0:0<=n / 2 ^ (8*j)%256/\n / 2 ^ (8*j)%256<=255:=(by omega);clear hlen;go_wp2_with (at_builtin;refine FO wr _ rfl _ _ rfl w.heap.size _ _ rfl HO.out hx0 rfl HLE.out hbr.size ?_;intro v' w3 hob3 hb3)
    go_roundw
    case rel=>
     refine⟨j+1,by omega,by go_num,?_,hbr.trans hb3⟩;show OB _ _ _ _
     rw[Hf,<- A7];exact hob3
    case measure=>simp[intOf];omega
  . go_wp2_with fail
    go_ret;obtain rfl:j=k:=by omega
    exact⟨_,rfl,HO.out,hbr⟩
theorem G8(m:Nat):Builtin.zeroCells (Y .u8 0).cells m=AK m (Y .u8 0):=by
 apply Array.ext
 . simp[Builtin.zeroCells,I.cells]
 . intro j h1 h2
   simp[Builtin.zeroCells,I.cells,Nat.mod_one]
theorem RI:E.wrap 0=0:=by decide
theorem Nn(w:Z)(B:Nat)(ty:Cg)(v:I)(n:Nat)(xs:List I)(hown:w.ownsRow B 5 1 v n xs)(m:Nat)(hlen:n+m<=140737488355328)(hB:B<=w.heap.size):
 ∃ v' w',(Builtin.append_ #[77,3] ty #[v,Y E m]).run U w=.ok v' w'/\w'.ownsRow B 5 1 v' (n+m) (xs ++ Aw m (Y .u8 0))/\w.grownBy w' v.ownBlock:=by
 obtain⟨i,h2,h3,h4,h5⟩:=Bf IB;have rX:xs.length=n:=by simpa using hown.1
 have hm1:E.wrap (m:Int)=m:=by rw[IntKind.wrap_i64];omega
 have hm2:¬ (m:Int)<0:=by omega
 have qk:¬ 281474976710656<(m:Int):=by omega
 have a_:(xs ++ Aw m (Y .u8 0)).length=(n+m)*1:=by simp[rX]
 have grown:∀ (old:Nat),old<n+m->∀ (row:Option Nat),
  (w.drew.alloc (Am (xs.toArray ++ AK m (Y .u8 0) ++ AK (grownCap w (n+m) old 5-(n+m)) (Y .u8 0)) 5)).ownsRow B 5 1
    (Ak (V ⟨w.heap.size,0,R⟩) (n+m) (grownCap w (n+m) old 5)) (n+m) (xs ++ Aw m (Y .u8 0))/\
  w.grownBy (w.drew.alloc (Am (xs.toArray ++ AK m (Y .u8 0) ++ AK (grownCap w (n+m) old 5-(n+m)) (Y .u8 0)) 5)) row:=by
  intro old ho row;have hge:=grownCap_ge w (n+m) old 5;have Jq:grownCap w (n+m) old 5<=maxLen:=grownCap_le_maxLen w (n+m) old 5 (by simp only[maxLen];omega);refine⟨⟨a_,AW ⟨w.heap.size,_,_,rfl,hB,Ar w.drew _,hge,Jq,?_,?_⟩⟩,⟨rfl,rfl,rfl,by simp,fun k hk _=>@Go.heap_alloc_old w.drew _ _ hk⟩⟩
  . simp[rX];omega
  . simp only[Array.toList_append,Array.toList_replicate]
    rw[<- a_,Dz]
    . rfl
 have hz:(if m=0 then (pure #[]:Sem (Array I)) else pure (Builtin.zeroCells (Y .u8 0).cells m))=pure (AK m (Y .u8 0)):=by
  by_cases h0:m=0
  . subst h0;simp
  . rw[Ax h0,G8]
 rcases hown.2 with⟨rfl,rfl⟩| ⟨g,cap,cur,rfl,hbg,hg,Ii,Jq,Jr,uh⟩
 . obtain rfl:xs=[]:=AO rX
   by_cases hm:m=0
   . subst hm
     refine⟨Ak R 0 0,w,?_,Dn w B 5 1,⟨rfl,rfl,rfl,At _,fun _ _ _=>rfl⟩⟩;simp[Builtin.append_,B9 Tryz.underlying77,B9 Tryz.underlying3,sizeOf,typeInfo,h2,h5,asInt,asIntOf,RI]
   . have hgr:=grown 0 (by omega) (I.ownBlock (Ak R 0 0))
     have BG:¬ (281474976710656<Builtin.nextslicecap m 0*1):=(by rw[nextslicecap_zero (by omega)];omega);simp only[Br,List.nil_append] at hgr |-
     refine⟨_,_,?_,hgr.1,hgr.2⟩;have hc1:¬ 9223372036854775807<(m:Int):=by omega
     simp only[Nat.mul_one] at BG;simp[Builtin.append_,B9 Tryz.underlying77,B9 Tryz.underlying3,sizeOf,typeInfo,zeroValue,h2,h3,h4,h5,asInt,asIntOf,hm1,hm2,qk,hm,hc1,BG,Question.forced,run_firstCells_none,newRow,grownCap];simp[G8]
 . by_cases hroom:n+m<=cap
   . have hst:=run_storeCells_at U g n 5 (Aw m (Y .u8 0)) 0 cur w hg (by simp;omega) (fun u hu=>by rw[BS hu];rfl)
     refine⟨_,w.setRow g (cur.toList.take n ++ Aw m (Y .u8 0) ++ cur.toList.drop (n+m)).toArray,?_,⟨a_,AW ⟨g,cap,_,rfl,hbg,CC w g cur _ 5 _ hg,hroom,Jq,?_,?_⟩⟩,⟨rfl,rfl,rfl,by simp,fun k _ hk=>setRow_other w g k _ (fun e=>hk (by simp[I.ownBlock,e]))⟩⟩
     . by_cases hm:m=0
       . subst hm
         simp[Builtin.append_,B9 Tryz.underlying77,B9 Tryz.underlying3,sizeOf,typeInfo,h2,h5,asInt,asIntOf,RI,Ii,storeCells];exact(setRow_self w g cur 5 (0,0) hg).symm
       . simp[Builtin.append_,B9 Tryz.underlying77,B9 Tryz.underlying3,sizeOf,typeInfo,zeroValue,h2,h3,h4,h5,asInt,asIntOf,hm1,hm2,qk,hm,hroom]
         rw[G8,Array.toList_replicate,BY,Br,hst];simp
     . simp;omega
     . have ht:cur.toList.take n=xs:=by simpa using uh
       rw[ht,<- a_,Dz rfl]
   . have hgr:=grown cap (by omega) (I.ownBlock (Ak (V ⟨g,0,R⟩) n cap))
     refine⟨_,_,?_,hgr.1,hgr.2⟩;have hn:¬ (n+m<=cap):=hroom;have Ik:m≠0:=by omega
     have h63':¬ (9223372036854775807<((n:Int)+(m:Int))):=(by omega);have BG:=growslice_fits (bytes:=1) (show cap<n+m by omega) (by omega);have h48':¬ (281474976710656<Builtin.nextslicecap (n+m) cap):=(by omega);have Q3:=run_firstCells_some (P:=U) w.drew 1 n ⟨g,0,R⟩ n cap xs (by simpa using rX) (by
      have hc:w.ownsRow B 5 1 (Ak (V ⟨g,0,R⟩) n cap) n xs:=hown;exact hc.cells (g:=g) rfl)
     simp[Builtin.append_,B9 Tryz.underlying77,B9 Tryz.underlying3,sizeOf,typeInfo,zeroValue,h2,h3,h4,h5,asInt,asIntOf,hm1,hm2,qk,Ik,hn,h63',h48',Question.forced,Q3,newRow,grownCap,G8]
theorem G4(w:Z){ops:Array BE}{rest:List BE}{o:BE}{a:Act}{Q:Exit->Act->Z->Prop}(Du:o.guard=R)(s x:Operand)
 (ho:o.op=.call { callee:=.builtin .append,args:=#[s,x],argTypes:=#[77,3] })
 (B:Nat) (v:I) (l:List Int) (hs:a.eval s=v) (hown:OB w B v l) (C:Int) (m:Nat) (hx:a.eval x=Y E C) (hC:C=m) (hlen:l.length+m<=140737488355328) (hB:B<=w.heap.size)
 (h:∀ v' w',OB w' B v' (l ++ Aw m 0)->Ap B w w'->Cf U ops Q rest (a.put o.dst v') w'):Cf U ops Q (o :: rest) a w:=by
 subst hC;obtain⟨v',w',hr,h2,h3⟩:=Nn w B o.type v l.length _ hown.2 m hlen hB;refine CA Du fun K hK=>?_
 unfold BE.wp execOp;simp only[ho,resolve,invoke,builtin,Dg,Sem.run_pure,Result.andThen_ok,Fc,DO,IJ,hs,hx,hr];refine hK _ _ (h v' w' ⟨DL hown.1 (C4 m),?_⟩ ((AC _ _).grown h3 hB fun k hk=>(hown.2.lt k hk).1))
 simpa using h2
def O0(l:List Int)(w:Z)(e:Ending)(w':Z):Prop:=
 ∃ v,e=Aj (AH #[v,Y E 0])/\OB w' w.heap.size v (BK l)/\Ap w.heap.size w w'
theorem Y1{w0 w:Z}{v:I}{l:List Int}(hs:BSl w0 v l)(hk:Ap w0.heap.size w0 w)(hl:l.length<=140737488355300)(S:Int)(hS:S=Fq l):
 Av U 184 #[v] w fun e w'=>e=Aj (Y .u32 S)/\w=w':=by rw[hS];exact ky (hs.below hk) hl
theorem tW{w:Z}{v:I}{l:List Int}(hs:BSl w v l)(hl:l.length=252)(S:Int)(hS:S=Fq l):
 Av U 133 #[v,Y .u64 S,Y E 4] w (JQ w (l ++ BT (Fq l) 4)):=by
 have hb:=FQ l;rw[hS];exact FK hs (by omega) _ 4 4 (by omega) (by omega) rfl hb.1 (by omega)
theorem tJ{w:Z}{v:I}{l:List Int}(hs:BSl w v l)(hl:l.length=252)(S:Int)(hS:S=Fq l):
 Av U 112 #[v,Y .u64 S,Y E 4] w (JQ w (l ++ BT (Fq l) 4)):=by
 have hb:=FQ l;rw[hS];exact Im hs (by omega) _ 4 4 (by omega) (by omega) rfl hb.1 (by omega)
theorem La{w:Z}{v:I}{l:List Int}(hs:BSl w v l)(hl:l.length<=252):Av U 187 #[v] w (O0 l w):=by
 obtain⟨ao,cap,rfl,Cx⟩:=hs.shape;obtain⟨M,M7⟩:∃ M:Nat,M=252:=⟨_,rfl⟩;have qm:(252:Int)=(M:Int):=by omega
 have hby:=hs.1;have Js:=Fi hs (w1:=w.alloc (Am (AK M (Y .u8 0)) 5)) (fun p hp=>C9 w _ p hp) l.length;rw[BP] at Js;have hf1:=EK l hl;obtain⟨F,hF⟩:=nm (DH l);obtain⟨S,hS⟩:=nm (Fq F);have rY:=FQ F;rw[<- hS] at rY;have ui:BK l=F ++ BT (Fq F) 4:=by rw[hF];rfl
 rw[<- hF] at hf1;obtain⟨N,hN⟩:=nm l.length;rw[<- hN] at hl Cx |-
 have hg2:(w.alloc (Am (AK M (Y .u8 0)) 5)).heap[w.heap.size]? =V (Am (Aw M (Y .u8 0)).toArray 5 (0,0)):=by
  rw[Ar];simp
 have hcl:(l.map (Y .u8)).length=N:=by rw[Ba,<- hN]
 have hmm:N=Nat.min N M:=(FL (by omega)).symm;have GZ:0+(l.map (Y .u8)).length<=(Aw M (Y .u8 0)).length:=by rw[Ba,<- hN,M7];rw[A3];omega
 have HN:=wM hN;have HMM:=wM M7;have HMI:=wM qm;have rZ:M<=200000000000000:=by omega
 have hNM:N<=M:=by omega
 have HG:=wM hg2;have HC:=wM hcl;have HM:=wM hmm;have HF:=wM GZ;have HP:=wM Js;have HBY:=wM hby;have HFF:=wM hF;have HSS:=wM hS;have HF1:=wM hf1;have HFS:=wM ui;have hbl:Ap w.heap.size w (w.alloc (Am (AK M (Y .u8 0)) 5)):=(AC _ _).alloc (At _) _;clear hN hg2 hcl hmm GZ Js hby hs hF hS hf1 ui M7 qm;go_enter Tryz.func187,Tryz.ntmps187
 go_wp2_with (first
  |(at_make;refine CJ _ rfl _ _ rfl _ M rfl rfl HMI.out rZ ?_)
  |(with_reducible refine C6 rfl _ _ 77 77 rfl 5 Tryz.underlying77 (by kernel_rfl) _ _ _ _ _ _ rfl rfl w.heap.size 0 (Aw M (Y .u8 0)) 5 HG.out (l.map (Y .u8)) N HC.out HM.out (fun h=>⟨rfl,HP.out h⟩) HF.out (ints_oneCell _ _) ?_
    intro w2 HG3 HW2;have hb2:Ap w.heap.size w w2:=hbl.trans (HW2.below (At _));have hob:OB w2 w.heap.size (Ak (V ⟨w.heap.size,0,R⟩) M M) F:=by
     have h3:=HG3.out;have h4:splice (Aw M (Y .u8 0)) 0 (l.map (Y .u8))=F.map (Y .u8) ++ []:=by
      rw[HFF.out,DH,HMM.out.symm];simp[splice,<- HN.out]
     rw[h4] at h3;have h5:=OB.of_heap (cap:=M) (rest:=[]) (l:=F) (B:=w.heap.size) (by rw[HFF.out];exact DL HBY.out (C4 _)) (At _) h3 (by rw[HF1.out,HMM.out];rfl) (by rw[HMM.out];decide);rw[HF1.out,<- HMM.out] at h5;exact h5
    clear HG3 HW2)
  |(go_at_call 184;refine(Y1 hob.bsl (AC _ _) (by rw[HF1.out];omega) S HSS.out).mono ?_;rintro e w' ⟨rfl,rfl⟩)
  |(go_at_call 133;refine(tW hob.bsl HF1.out S HSS.out).mono ?_;rintro e w3 ⟨v3,rfl,hob3,hb3⟩))
 go_ret2;refine⟨v3,rfl,?_,hb2.trans (hb3.mono hb2.size)⟩;rw[HFS.out];exact hob3.more hb2.size
theorem Sr{w:Z}{v:I}{l:List Int}(hs:BSl w v l)(hl:l.length<=252):Av U 114 #[v] w (O0 l w):=by
 obtain⟨ao,cap,hv,Cx⟩:=hs.shape;have hf1:=EK l hl;obtain⟨F,hF⟩:=nm (DH l);obtain⟨S,hS⟩:=nm (Fq F);have rY:=FQ F;rw[<- hS] at rY;have ui:BK l=F ++ BT (Fq F) 4:=by rw[hF];rfl
 rw[<- hF] at hf1;have hlen:([]:List Int).length+l.length<=140737488355328:=by simp;omega
 obtain⟨N,hN⟩:=nm l.length;rw[<- hN] at hl hv;subst hv;have HN:=wM hN;have HS:=wM hs;have HL:=wM hlen;have HFF:=wM hF;have HSS:=wM hS;have HF1:=wM hf1;have HFS:=wM ui;have uj:(252:Int)-N=((252-N:Nat):Int):=by omega
 have HSU:=wM uj;clear hN hs hF hS hf1 ui hlen uj;go_enter Tryz.func114,Tryz.ntmps114
 go_wp2_with (first
  |(at_builtin;(refine BQ _ rfl (.tmp 8) (.tmp 9) rfl w.heap.size _ [] rfl (PK w) w _ l rfl HS.out (fun p hp=>C9 w _ p hp) HL.out (by simp) ?_);intro v2 w2 hob2 hb2 _;rw[List.nil_append] at hob2
    have hbe:Ap w.heap.size w w2:=((AC _ _).alloc (At _) _).trans hb2)
  |(at_builtin;(refine G4 _ rfl (.tmp 10) (.tmp 13) rfl w.heap.size _ l rfl hob2 _ (252-N) rfl HSU.out (by rw[<- HN.out];omega) hbe.size ?_);intro v3 w3 hob3 hb3
    have hbf:Ap w.heap.size w w3:=hbe.trans hb3;rw[HN.out,show l ++ Aw (252-l.length) 0=DH l from rfl,<- HFF.out] at hob3)
  |(go_at_call 155;refine(kY hob3.bsl (by rw[HF1.out];omega)).mono ?_;rw[<- HSS.out];rintro e w' ⟨rfl,rfl⟩)
  |(go_at_call 112;refine(tJ hob3.bsl HF1.out S HSS.out).mono ?_;rintro e w4 ⟨v4,rfl,hob4,hb4⟩))
 go_ret2;refine⟨v4,rfl,?_,hbf.trans (hb4.mono hbf.size)⟩;rw[HFS.out];exact hob4.more hbf.size
theorem BSl.take{w:Z}{a:Addr}{cap:Nat}{l:List Int}(h:BSl w (Ak (V a) l.length cap) l)(n:Nat)(hn:n<=l.length):BSl w (Ak (V a) n cap) (l.take n):=by
 refine⟨Es h.1 n,AW ⟨a,cap,by rw[AJ,FL hn],?_,fun j hj=>?_⟩⟩
 . rcases h.2 with⟨hv,_⟩| ⟨_,_,hv,hc,_⟩
   . simp at hv
   . obtain⟨_,rfl⟩:_/\_:=by simpa using hv
     rw[AJ];omega
 . rw[AJ,FL hn] at hj
   rcases h.2 with⟨hv,_⟩| ⟨a',c',hv,_,hc⟩
   . simp at hv
   . obtain⟨rfl,rfl⟩:a=a'/\cap=c':=by simpa using hv
     obtain⟨h1,h2,h3⟩:=hc j (by omega);exact⟨h1,h2,by rw[h3];simp[hj]⟩
def n_(l:List Int)(w:Z)(e:Ending)(w':Z):Prop:=
 (Fx l/\∃ v,e=Aj (AH #[v,AP AE])/\OB w' w.heap.size v (l.take 252)/\Ap w.heap.size w w')\/
 (¬ Fx l/\e=Aj (AH #[Ak R 0 0,AP X])/\Ap w.heap.size w w')
theorem dO{w:Z}{ao:Option Addr}{len cap:Nat}(h:len≠256):
 Av U 149 #[Ak ao len cap] w fun e w'=>e=Aj (AH #[Ak R 0 0,AP X])/\w=w':=by
 have hne:((len:Int) != 256)=AE:=by simp;omega
 go_enter Tryz.func149,Tryz.ntmps149;go_wp2_with fail
 go_ret2;exact⟨rfl,rfl⟩
theorem qa{w:Z}{b off cap:Nat}{l:List Int}(hs:BSl w (Ak (V ⟨b,off,R⟩) 256 cap) l)(hl:l.length=256)(G:Int)(hG:G=Cl l 252 4):
 Av U 183 #[Ak (V ⟨b,off,R⟩) 256 cap,Y E 252,Y E 4] w fun e w'=>e=Aj (AH #[Y .u64 G,AP AE])/\w=w':=by
 rcases hs.2 with⟨hv,_⟩| ⟨a',c',hv,_,hc⟩
 . simp at hv
 . obtain⟨rfl,_,rfl⟩:_/\_/\_:=by simpa using hv
   have:=Z7 (w:=w) (b:=b) (off:=off) (cap:=cap) hs.1 (by omega) (fun j hj=>(hc j hj).2.2) 252 4 (by omega) (by omega) (by omega);rw[hl] at this;rw[hG];exact this
theorem kA{w:Z}{b off cap:Nat}{l:List Int}(hs:BSl w (Ak (V ⟨b,off,R⟩) 256 cap) l)(hl:l.length=256)(Cx:256<=cap)(hne:Cl l 252 4≠Fq (l.take 252)):
 Av U 149 #[Ak (V ⟨b,off,R⟩) 256 cap] w fun e w'=>e=Aj (AH #[Ak R 0 0,AP X])/\w=w':=by
 have ht:BSl w (Ak (V ⟨b,off,R⟩) 252 cap) (l.take 252):=BSl.take (by rw[hl];exact hs) 252 (by omega);have hbd:=EL (C3 hs.1) 252 4;have rY:=FQ (l.take 252);have lE:(l.take 252).length<=140737488355300:=by rw[AJ];omega
 obtain⟨G,hG⟩:=nm (Cl l 252 4);obtain⟨S,hS⟩:=nm (Fq (l.take 252));rw[<- hG] at hbd hne;rw[<- hS] at rY hne;have hne':(G != S)=AE:=by simpa using hne
 have pb:G<4294967296:=by simpa using hbd.2
 have hG0:=hbd.1;have HS:=wM hs;have HT:=wM ht;have HG:=wM hG;have HSS:=wM hS;have HL:=wM hl;have HTL:=wM lE;clear hs ht hG hS hl lE hbd;go_enter Tryz.func149,Tryz.ntmps149
 go_wp2_with (first
  |(go_at_call 183;refine(qa HS.out HL.out G HG.out).mono ?_;rintro e w' ⟨rfl,rfl⟩)
  |(go_at_call 184;refine(Y1 HT.out (AC _ _) HTL.out S HSS.out).mono ?_;rintro e w' ⟨rfl,rfl⟩))
 go_ret2;exact⟨rfl,rfl⟩
theorem fQ{w:Z}{b off cap:Nat}{l:List Int}(hs:BSl w (Ak (V ⟨b,off,R⟩) 256 cap) l)(hl:l.length=256)(Cx:256<=cap)(Rq:Cl l 252 4=Fq (l.take 252)):
 Av U 149 #[Ak (V ⟨b,off,R⟩) 256 cap] w fun e w'=>∃ v,e=Aj (AH #[v,AP AE])/\OB w' w.heap.size v (l.take 252)/\Ap w.heap.size w w':=by
 have ht:BSl w (Ak (V ⟨b,off,R⟩) 252 cap) (l.take 252):=BSl.take (by rw[hl];exact hs) 252 (by omega);have rY:=FQ (l.take 252);have lE:(l.take 252).length=252:=by rw[AJ];omega
 obtain⟨S,hS⟩:=nm (Fq (l.take 252));have hG:S=Cl l 252 4:=by rw[hS,Rq]
 rw[<- hS] at rY;obtain⟨M,M7⟩:∃ M:Nat,M=252:=⟨_,rfl⟩;have qm:(252:Int)=(M:Int):=by omega
 have Js:=Fi hs (w1:=w.alloc (Am (AK M (Y .u8 0)) 5)) (fun p hp=>C9 w _ p hp) 252;have hg2:(w.alloc (Am (AK M (Y .u8 0)) 5)).heap[w.heap.size]? =V (Am (Aw M (Y .u8 0)).toArray 5 (0,0)):=by
  rw[Ar];simp
 have hcl:((l.take 252).map (Y .u8)).length=M:=by rw[Ba,lE,M7]
 have hmm:M=Nat.min 256 M:=(Nat.min_eq_right (by omega)).symm;have GZ:0+((l.take 252).map (Y .u8)).length<=(Aw M (Y .u8 0)).length:=by rw[Ba,lE,A3];omega
 have hbl:Ap w.heap.size w (w.alloc (Am (AK M (Y .u8 0)) 5)):=(AC _ _).alloc (At _) _;have HMM:=wM M7;have HMI:=wM qm;have rZ:M<=200000000000000:=by omega
 have HS:=wM hs;have HT:=wM ht;have HG:=wM hG;have HSS:=wM hS;have HL:=wM hl;have HTL:=wM lE;have HP:=wM Js;have HG2:=wM hg2;have HC:=wM hcl;have HM:=wM hmm;have HF:=wM GZ;clear hs ht hG hS hl lE Rq Js hg2 hcl hmm GZ M7 qm;go_enter Tryz.func149,Tryz.ntmps149
 go_wp2_with (first
  |(go_at_call 183;refine(qa HS.out HL.out S HG.out).mono ?_;rintro e w' ⟨rfl,rfl⟩)
  |(go_at_call 184;refine(Y1 HT.out (AC _ _) (by rw[HTL.out];omega) S HSS.out).mono ?_;rintro e w' ⟨rfl,rfl⟩)
  |(at_make;refine CJ _ rfl _ _ rfl _ M rfl rfl HMI.out rZ ?_)
  |(with_reducible refine C6 rfl _ _ 77 77 rfl 5 Tryz.underlying77 (by kernel_rfl) _ _ _ _ _ _ rfl rfl w.heap.size 0 (Aw M (Y .u8 0)) 5 HG2.out ((l.take 252).map (Y .u8)) M HC.out HM.out (fun h=>⟨rfl,HP.out h⟩) HF.out (ints_oneCell _ _) ?_
    intro w2 HG3 HW2))
 go_ret2;refine⟨_,rfl,?_,hbl.trans (HW2.below (At _))⟩;have h3:=HG3.out;rw[EM _ _ (by rw[HC.out,A3])] at h3;have h5:=OB.of_heap (cap:=M) (rest:=[]) (l:=l.take 252) (B:=w.heap.size) (Es HS.out.1 _) (At _) (by rw[BW];exact h3) (by rw[HTL.out,HMM.out];rfl) (by rw[HMM.out];decide);have e:(l.take 252).length=M:=by rw[HTL.out,HMM.out]
 rw[e] at h5;exact h5
theorem Su{w:Z}{v:I}{l:List Int}(hs:BSl w v l):Av U 149 #[v] w (n_ l w):=by
 by_cases hl:l.length=256
 . rcases hs.2 with⟨_,rfl⟩| ⟨⟨b,off,spot⟩,cap,rfl,Cx,hc⟩
   . simp at hl
   . obtain rfl:spot=R:=(hc 0 (by omega)).2.1
     rw[hl] at hs Cx |-
     by_cases h:Cl l 252 4=Fq (l.take 252)
     . exact(fQ hs hl Cx h).mono fun e w' ⟨v,h1,h2,h3⟩=>AU ⟨⟨hl,h⟩,v,h1,h2,h3⟩
     . exact(kA hs hl Cx h).mono fun e w' ⟨h1,h2⟩=>AW ⟨fun hh=>h hh.2,h1,by rw[<- h2];exact AC _ _⟩
 . obtain⟨ao,cap,rfl,_⟩:=hs.shape
   exact(dO hl).mono fun e w' ⟨h1,h2⟩=>AW ⟨fun hh=>hl hh.1,h1,by rw[<- h2];exact AC _ _⟩
theorem Se{w:Z}{v:I}{l:List Int}(hs:BSl w v l)(h:¬ Fx l):Av U 149 #[v] w fun e w'=>e=Aj (AH #[Ak R 0 0,AP X])/\Ap w.heap.size w w':=
 (Su hs).mono fun e w' ho=>ho.elim (fun h1=>absurd h1.1 h) fun h1=>h1.2
theorem J2{w:Z}{v:I}{l:List Int}(hs:BSl w v l)(h:Fx l):Av U 149 #[v] w fun e w'=>∃ v,e=Aj (AH #[v,AP AE])/\OB w' w.heap.size v (l.take 252)/\Ap w.heap.size w w':=
 (Su hs).mono fun e w' ho=>ho.elim (fun h1=>h1.2) fun h1=>absurd h h1.1
theorem MT{l:List Int}(h:Fx l):(l.take 252).length=252:=by
 have:=h.1;rw[AJ];omega
end
section
open Go.RowKit BM
theorem J9(O:List (Int × Int))(k:Nat)(x y:Int)(hx:x=(O.getD k (0,0)).1)(hy:y=(O.getD k (0,0)).2):Em O (k+1)=Em O k ++ BT x 2 ++ BT y 2:=by
 rw[hx,hy];rfl
theorem IU{O:List (Int × Int)}(h:FM O=AE):O.length=64:=by
 unfold FM at h;rw[AQ] at h;exact AX h.1
theorem YO(i a:Int)(hi0:0<=i)(hi:i<=65535)(ha0:0<=a)(ha:a<=65535)(w:Z):
 Av U 111 #[BN #[Y .u16 i,Y .u16 a]] w fun e w'=>e=Aj (AP (Gu i a))/\Ap w.heap.size w w':=by
 have hob:=As w (Am #[Y .u16 i,Y .u16 a] 200);obtain⟨B,hB⟩:=nm (Gu i a);rw[<- hB];unfold Gu at hB;by_cases h0:i=0
 . rw[Au (AU h0)] at hB
   subst h0;cases hd:decide (a=0)
   all_goals
    rw[hd] at hB;have HB:=wM hB;have uk:(a==0)=_:=hd;clear hB hd;go_enter Tryz.func111,Tryz.ntmps111;go_wp2;go_ret;exact⟨by rw[HB.out];rfl,hob⟩
 . have e0:(i==0)=X:=by simpa using h0
   by_cases h1:i=65535
   . rw[Au (AW h1)] at hB
     subst h1;cases hd:decide (a=0)
     all_goals
      rw[hd] at hB;have HB:=wM hB;have uk:(a==0)=_:=hd;clear hB hd h0;go_enter Tryz.func111,Tryz.ntmps111;go_wp2;go_ret;exact⟨by rw[HB.out];rfl,hob⟩
   . rw[Ax (by omega)] at hB
     have e1:(i==65535)=X:=by simpa using h1
     by_cases h2:i=65534
     . rw[Au h2] at hB
       subst h2;cases hd:decide (a<6)
       all_goals
        rw[hd] at hB;have HB:=wM hB;clear hB h0 h1;go_enter Tryz.func111,Tryz.ntmps111;go_wp2;go_ret;exact⟨by rw[HB.out];rfl,hob⟩
     . rw[Ax h2] at hB
       have e2:(i==65534)=X:=by simpa using h2
       clear h0 h1 h2;by_cases h3:i<48
       . by_cases h4:a<138
         . have HB:Hid (B=AE):=wM (by rw[hB];simp[h3,h4])
           clear hB;go_enter Tryz.func111,Tryz.ntmps111;go_wp2;go_ret;exact⟨by rw[HB.out];rfl,hob⟩
         . have uk:(a==65535)=B:=by rw[hB,Az h3,AB h4];rfl
           have hb2:B=AE\/B=X:=by cases B <;> simp
           clear hB;rcases hb2 with rfl|rfl
           all_goals
            go_enter Tryz.func111,Tryz.ntmps111;go_wp2;go_ret;exact⟨rfl,hob⟩
       . have HB:Hid (B=X):=wM (by rw[hB];simp[h3])
         clear hB;go_enter Tryz.func111,Tryz.ntmps111;go_wp2;go_ret;exact⟨by rw[HB.out];rfl,hob⟩
theorem Np(i a:Int)(hi:0<=i/\i<=65535)(ha:0<=a/\a<=65535)(B:Bool)(h:Gu i a=B)(w:Z):
 Av U 111 #[BN #[Y .u16 i,Y .u16 a]] w fun e w'=>e=Aj (AP B)/\Ap w.heap.size w w':=by
 rw[<- h];exact YO i a hi.1 hi.2 ha.1 ha.2 w
theorem YM{w:Z}(ao:Option Addr)(len cap:Nat)(h:len≠64):Av U 68 #[Ak ao len cap] w fun e w'=>e=Aj (AH #[Ak R 0 0,Y E 1])/\w=w':=by
 have hne:((len:Int) != 64)=AE:=by simp;omega
 go_enter Tryz.func68,Tryz.ntmps68;go_wp2;go_ret2;exact⟨rfl,rfl⟩
theorem aI{w0 w:Z}{u:I}{l:List Int}(hs:BSl w0 u l)(hl:l.length<=1000)(x:Int)(hx0:0<=x)(hx:x<=65535)(hb:Ap w0.heap.size w0 w):
 Av U 112 #[u,Y .u64 x,Y E 2] w fun e w'=>∃ v,e=Aj v/\BSl w' v (l ++ BT x 2)/\Ap w0.heap.size w0 w':=
 (Im (hs.below hb) (by omega) x 2 2 (by omega) (by omega) rfl hx0 (by omega)).mono fun e w' ⟨v,he,hob,hb2⟩=>⟨v,he,hob.bsl,hb.trans (hb2.mono hb.size)⟩
theorem u64_in(x:Int)(h0:0<=x)(h1:x<18446744073709551616):IntKind.u64.wrap x=x:=by rw[IntKind.wrap_u64];omega
def Wa(O:List (Int × Int))(w:Z)(e:Ending)(w':Z):Prop:=
 (FM O=AE/\∃ v,e=Aj (AH #[v,Y E 0])/\BSl w' v (DM O)/\Ap w.heap.size w w')\/
 (FM O=X/\e=Aj (AH #[Ak R 0 0,Y E 1])/\Ap w.heap.size w w')
theorem fV{w:Z}{b off cap:Nat}{O:List (Int × Int)}(hO:O.length=64)(hB:OwB O)(hb:b<w.heap.size)
 (hc:∀ j,j<O.length->w.cell? ⟨b,off+j*2,R⟩=V (Y .u16 (O.getD j (0,0)).1)/\w.cell? ⟨b,off+j*2+1,R⟩=V (Y .u16 (O.getD j (0,0)).2)):
 Av U 68 #[Ak (V ⟨b,off,R⟩) 64 cap] w (Wa O w):=by
 have HC:=wM hc;have HO:=wM hO;have HBB:=wM hB;have hall:FM O=Jc O 64:=by rw[FM,hO];rfl
 have HA:=wM hall;have qn:DM O=Em O 64:=by unfold DM;rw[hO]
 have HPO:=wM qn;clear hc hO hB hall qn;go_enter Tryz.func68,Tryz.ntmps68;go_wp2;go_loopw [4,11] (fun u i wr=>∃ k:Nat,k<=64/\i=Y E k/\Hid (Jc O k=AE)/\Hid (BSl wr u (Em O k))/\Ap w.heap.size w wr) (fun _ i _=>64-(intOf i).toNat)
 case atStart=>exact⟨0,by omega,rfl,rfl,Kt _,AC _ _⟩
 case round=>
  obtain⟨k,hk,rfl,HK,HU,hbr⟩:=hrel;by_cases hlt:k<64
  . have hck:=HC.out k (by rw[HO.out];exact hlt)
    have hbd:=HBB.out k;have hj:NJ O k=Gu (O.getD k (0,0)).1 (O.getD k (0,0)).2:=rfl;obtain⟨x,hx⟩:=nm ((O.getD k (0,0)).1);obtain⟨y,hy⟩:=nm ((O.getD k (0,0)).2);rw[<- hx,<- hy] at hck hbd hj;have c1:=(hbr.cell (p:=⟨b,off+k*2,R⟩) hb).trans hck.1;have c2:=(hbr.cell (p:=⟨b,off+k*2+1,R⟩) hb).trans hck.2;have ek:(k:Int)<64:=(by omega);have HPK:=wM (J9 O k x y hx hy);have hpl:=Ff O k;have HL1:Hid ((Em O k).length<=1000):=wM (by omega);have HL2:Hid ((Em O k ++ BT x 2).length<=1000):=wM (by rw[AD,Bc];omega);clear hx hy hck hpl;cases hf:Gu x y
    . have HF:=wM hf
      rw[hf] at hj;have HJ:=wM hj;clear hf hj;go_wp2_with (go_at_call 111;refine(Np x y hbd.1 hbd.2 X HF.out _).mono ?_;rintro e w2 ⟨rfl,hb2⟩)
      go_ret2;exact AW ⟨by rw[HA.out,ZY HJ.out hlt],rfl,hbr.trans (hb2.mono hbr.size)⟩
    . have HF:=wM hf
      rw[hf] at hj;have HJ:=wM hj;clear hf hj;go_wp2_with (go_at_call 111;refine(Np x y hbd.1 hbd.2 AE HF.out _).mono ?_;rintro e w2 ⟨rfl,hb2⟩)
      have b0:b<wr.heap.size:=AA hb hbr.size;have b2:b<w2.drew.heap.size:=AA b0 hb2.size;have hbd2:Ap wr.heap.size wr w2.drew:=hb2.drew;have d1:w2.drew.cell? ⟨b,off+k*2,R⟩=V (Y .u16 x):=(hbd2.cell (p:=⟨b,off+k*2,R⟩) b0).trans c1;have d2:w2.drew.cell? ⟨b,off+k*2+1,R⟩=V (Y .u16 y):=(hbd2.cell (p:=⟨b,off+k*2+1,R⟩) b0).trans c2;have HC1:=wM (fun W (h:Ap wr.heap.size wr W)=>(hbr.trans (h.mono hbr.size)));have HX:=wM (fun W (h:Ap wr.heap.size wr W)=>And.intro ((h.cell (p:=⟨b,off+k*2,R⟩) b0).trans c1) ((h.cell (p:=⟨b,off+k*2+1,R⟩) b0).trans c2));have HP1:=wM (fun W (h:Ap wr.heap.size wr W)=>aI HU.out HL1.out x hbd.1.1 hbd.1.2 h);have te:IntKind.u64.wrap x=x:=u64_in x hbd.1.1 (by omega);have hwy:IntKind.u64.wrap y=y:=u64_in y hbd.2.1 (by omega);clear c1 c2 hb2 b2
      go_region_held3 (fun W=>W.cell? ⟨b,off+k*2,R⟩=V (Y .u16 x)/\W.cell? ⟨b,off+k*2+1,R⟩=V (Y .u16 y)) (first|exact⟨f1,f2⟩|exact⟨e1,e2⟩|exact⟨d1,d2⟩) (first
       |(go_at_call 112;(with_reducible refine(HP1.out _ hbd2).mono ?_);rintro e w3 ⟨v3,rfl,hs3,hb3⟩
         obtain⟨e1,e2⟩:=HX.out _ hb3;have HP2:=wM (fun W (h:Ap w3.heap.size w3 W)=>aI hs3 HL2.out y hbd.2.1 hbd.2.2 h))
       |(go_at_call 112;(with_reducible refine(HP2.out _ (AC _ _)).mono ?_);rintro e w4 ⟨v4,rfl,hs4,hb4⟩
         obtain⟨f1,f2⟩:=HX.out _ (hb3.trans (hb4.mono hb3.size))))
      go_wp2_with fail
      go_roundw
      case rel=>exact⟨k+1,by omega,by go_num,by show Jc O (k+1)=AE;rw[Jc,HK.out,HJ.out];rfl,by show BSl _ _ (Em O (k+1));rw[HPK.out];exact hs4,HC1.out _ (hb3.trans (hb4.mono hb3.size))⟩
      case measure=>simp[intOf];omega
  . obtain rfl:k=64:=by omega
    go_wp2;go_ret2;exact AU ⟨by rw[HA.out,HK.out],_,rfl,by rw[HPO.out];exact HU.out,hbr⟩
theorem Ph{w:Z}{v:I}{O:List (Int × Int)}(hs:OwSl w v O):Av U 68 #[v] w (Wa O w):=by
 by_cases h:O.length=64
 . obtain⟨b,off,cap,rfl,hb,hc⟩:=hs.at (by omega)
   rw[h];exact fV h hs.1 hb hc
 . obtain⟨ao,cap,rfl⟩:=hs.shape
   refine(YM ao _ cap h).mono fun e w' ⟨he,hw⟩=>AW ⟨?_,he,by rw[<- hw];exact AC _ _⟩
   rw[FM,AB h];rfl
theorem aH(w:Z)(B:Nat):OwR w B (Ak R 0 0) []:=⟨JS fun j h=>by simp at h,by simp[Fy],AU ⟨rfl,rfl⟩⟩
theorem Ws(g:Int)(h1:0<=g)(h2:g<12)(w:Z):Av U 109 #[Y E g] w fun e w'=>∃ v,e=Aj v/\OwR w' w.heap.size v (FP g 64)/\Ap w.heap.size w w':=by
 have h3:g<=11:=by omega
 go_enter Tryz.func109,Tryz.ntmps109;go_wp2;go_loopw [3,12] (fun u i wr=>∃ k:Nat,k<=64/\i=Y E k/\Hid (OwR wr w.heap.size u (FP g k))/\Ap w.heap.size w wr) (fun _ i _=>64-(intOf i).toNat)
 case atStart=>exact⟨0,by omega,rfl,aH _ _,AC _ _⟩
 case round=>
  obtain⟨k,hk,rfl,HU,hbr⟩:=hrel;by_cases hlt:k<64
  . have ek:(k:Int)<64:=by omega
    have HS:=wM (WG g k);have HL:=wM (ID g k);cases hf:CR (64*g+(k:Int))
    . have HF:=wM hf
      have hj:LW g k=(0,0):=(by unfold LW;rw[hf];rfl);have HJ:=wM hj;clear hf hj
      go_wp2_with (first
       |(go_at_call 154;refine(Le _ (by omega) _ HF.out _).mono ?_;rintro e w3 ⟨rfl,rfl⟩)
       |(at_builtin
         refine IZ _ 0 0 (by decide) (by decide) rfl (.tmp 22) (.tmp 24) rfl w.heap.size _ (FP g k) rfl (HU.out.below (by first|exact As _ _|exact(As _ _).setCell (p:=⟨wr.heap.size,0,R⟩) (At _) _)) (by rw[HL.out];omega) (by simp;rfl) (by simp;have:=hbr.size;omega) ?_;intro v4 w4 hob4 hb4))
      go_roundw
      case rel=>exact⟨k+1,by omega,by go_num,by show OwR _ _ _ (FP g (k+1));rw[HS.out,HJ.out];exact hob4,(hbr.trans ((by first|exact As _ _|exact(As _ _).setCell (p:=⟨wr.heap.size,0,R⟩) (At _) _:Ap wr.heap.size wr _).mono hbr.size)).trans hb4⟩
      case measure=>simp[intOf];omega
    . have HF:=wM hf
      have hj:LW g k=(65535,0):=(by unfold LW;rw[hf];rfl);have HJ:=wM hj;clear hf hj
      go_wp2_with (first
       |(go_at_call 154;refine(Le _ (by omega) _ HF.out _).mono ?_;rintro e w3 ⟨rfl,rfl⟩)
       |(at_builtin
         refine IZ _ 65535 0 (by decide) (by decide) rfl (.tmp 22) (.tmp 24) rfl w.heap.size _ (FP g k) rfl (HU.out.below (by first|exact As _ _|exact(As _ _).setCell (p:=⟨wr.heap.size,0,R⟩) (At _) _)) (by rw[HL.out];omega) (by simp;rfl) (by simp;have:=hbr.size;omega) ?_;intro v4 w4 hob4 hb4))
      go_roundw
      case rel=>exact⟨k+1,by omega,by go_num,by show OwR _ _ _ (FP g (k+1));rw[HS.out,HJ.out];exact hob4,(hbr.trans ((by first|exact As _ _|exact(As _ _).setCell (p:=⟨wr.heap.size,0,R⟩) (At _) _:Ap wr.heap.size wr _).mono hbr.size)).trans hb4⟩
      case measure=>simp[intOf];omega
  . obtain rfl:k=64:=by omega
    go_wp2;go_ret;exact⟨_,rfl,HU.out,hbr⟩
theorem JM:(U.info? 152).map (·.size)=V 2:=by kernel_rfl
theorem wt{p q:I}(hp:p.oneCell'=AE)(hq:q.oneCell'=AE):(#[p,q]:Array I).all (·.oneCell')=AE:=by simp[hp,hq]
theorem FB{ops:Array BE}{rest:List BE}{o:BE}{a:Act}{w:Z}{Q:Exit->Act->Z->Prop}(Du:o.guard=R)(ty:Cg)(hi:(U.info? ty).map (·.size)=V 2)(x y:Operand)(ho:o.op=.store ty x y)
 (g:Nat) (hx:a.eval x=Al (V ⟨g,0,R⟩)) (p q p' q':I) (hy:a.eval y=BN #[p,q]) (hp:p.oneCell'=AE) (hq:q.oneCell'=AE) (T:Cg) (hg:w.heap[g]? =V (Am #[p',q'] T (0,0)))
 (h:∀ w',Wrote w w' g->w'.heap[g]? =V (Am #[p,q] T (0,0))->Cf U ops Q rest (a.put o.dst undef) w'):Cf U ops Q (o :: rest) a w:=
 C0 Du ty x y ho g #[p,q] hx hy T _ hg hi rfl (wt hp hq) (h _ (Wrote.setRow _ _ _) (CC _ _ _ _ _ _ hg))
theorem IP{fn:Func}{p u:Tmp}{ty:Cg}{fs}(h:fn.results=#[.cell p ty,.tmp u])(hu:U.underlying ty=V (.struct fs))(hi:(U.info? ty).map (·.size)=V 2)
 (tmps:Array I) (w:Z) (g:Nat) (T:Cg) (a b x:I) (hp:tmps.getD p undef=Al (V ⟨g,0,R⟩)) (hg:w.heap[g]? =V (Am #[a,b] T (0,0))) (hx:tmps.getD u undef=x):
 (results fn tmps).run U w=.ok (AH #[BN #[a,b],x]) w:=by
 rw[results_cell_tmp h,hp,hx];simp only[asAddr,Sem.run_pure,Result.andThen_ok];rw[run_loadVar_row w g T ty _ (0,0) _ hg hu rfl (by rw[hi];rfl)];rfl
theorem Bs{w w1:Z}{g:Nat}{o:Obj}(h:w.heap[g]? =V o)(hb:Ap w.heap.size w w1):w1.heap[g]? =V o:=(hb.block _ (Ah.1 h).1).trans h
theorem fO:(U.info? 4).map (fun i=>(i.zero,i.size,i.bytes))=V (V (AP X),1,1):=by kernel_rfl
def Pe(w:Z)(l:List Int)(e:Ending)(w':Z):Prop:=
 ∃ v,e=Aj v/\BSl w' v l/\Ap w.heap.size w w'
theorem aS{w:Z}{g:Nat}{l:List Int}(hb:∀ j,0<=l.getD j 0/\l.getD j 0<=255)(hg:w.heap[g]? =V (Am (l.map (Y .u8)).toArray 5 (0,0)))(c:Nat)(hcl:l.length<=c):
 BSl w (Ak (V ⟨g,0,R⟩) l.length c) l:=by
 refine⟨hb,AW ⟨_,c,rfl,hcl,fun j hj=>⟨(Ah.1 hg).1,rfl,?_⟩⟩⟩;show w.cell? ⟨g,0+j,R⟩=_
 rw[Br,Aq _ _ _ _ _ _ hg];simp[hj]
def part(L:List Bool)(k:Nat):List Bool:=L.take k ++ Aw (L.length-k) X
theorem Iu(L:List Bool)(k:Nat)(hk:k<=L.length):(part L k).length=L.length:=by simp[part];omega
theorem Nh(L:List Bool)(k j:Nat):(part L k).getD j X=if j<k then L.getD j X else X:=by
 unfold part;simp only[An];by_cases h:j<k
 . rw[Au h]
   by_cases h2:j<L.length
   . rw[BH (by simp;omega),AZ,Au h]
   . rw[A2 (l:=L) (by omega),A2 (by simp;omega)]
 . rw[Ax h,List.getElem?_append]
   split
   . rename_i h2;simp at h2;omega
   . rw[Cu];split <;> rfl
theorem cy(L:List Bool):part L 0=Aw L.length X:=by simp[part]
theorem iT(L:List Bool)(k:Nat)(h:L.length<=k):part L k=L:=by simp[part,AR h,show L.length-k=0 by omega]
theorem Q8{A B:List Bool}(hl:A.length=B.length)(h:∀ j,A.getD j X=B.getD j X):A=B:=by
 apply Bg hl;intro j h1 h2;have:=h j
 simpa [h1,h2] using this
theorem RS(L:List Bool)(k:Nat)(hk:k<L.length)(b:Bool)(hb:L.getD k X=b):part L (k+1)=if b then (part L k).set k AE else part L k:=by
 apply Q8
 . cases b <;> simp[Iu,Ct hk,Nat.succ_le_of_lt hk]
 . intro j
   rw[Nh];cases b
   . simp only[Bool.false_eq_true,if_false,Nh]
     by_cases h1:j<k
     . rw[Au h1,Au (by omega)]
     . rw[Ax h1]
       by_cases e:j=k
       . rw[e,Au (by omega),hb]
       . rw[Ax (by omega)]
   . simp only[if_true]
     rw[getD_set _ _ _ _ _ (by rw[Iu _ _ (by omega)];exact hk),Nh];by_cases e:j=k
     . rw[Au e,e,Au (by omega),hb]
     . rw[Ax e]
       by_cases h1:j<k
       . rw[Au h1,Au (by omega)]
       . rw[Ax h1,Ax (by omega)]
theorem oA(x:Int)(k:Nat)(hk:k<8)(h0:0<=x)(h1:x<=255):bits BinOp.or IntKind.u8 x (2 ^ k%256)=if D5 x k then x else x+2 ^ k:=by
 have e:(2:Int) ^ k%256=IntKind.u64.wrap (2 ^ k)%256:=by
  have h:k=0\/k=1\/k=2\/k=3\/k=4\/k=5\/k=6\/k=7:=by omega
  rcases h with rfl|rfl|rfl|rfl|rfl|rfl|rfl|rfl <;> decide
 rw[e,jq x k hk h0 h1]
end
section
open Go.RowKit Go.ChangeShapes Go.WideShapes
def KSl(w:Z)(v:I)(k:List Bool):Prop:=
 (v=Ak R 0 0/\k=[])\/∃ a cap,v=Ak (V a) k.length cap/\∀ j,j<k.length->a.block<w.heap.size/\a.spot=R/\w.cell? ⟨a.block,a.off+j,R⟩=V (AP (k.getD j X))
theorem KSl.below{w w':Z}{v:I}{k:List Bool}(h:KSl w v k)(hb:Ap w.heap.size w w'):KSl w' v k:=by
 rcases h with h| ⟨a,cap,hv,hc⟩
 . exact AU h
 . refine AW ⟨a,cap,hv,fun j hj=>?_⟩
   obtain⟨h1,h2,h3⟩:=hc j hj;exact⟨AA h1 hb.size,h2,by rw[hb.cell (p:=⟨a.block,a.off+j,R⟩) h1,h3]⟩
theorem KSl.shape{w:Z}{v:I}{k:List Bool}(h:KSl w v k):∃ ao cap,v=Ak ao k.length cap:=by
 rcases h with⟨hv,hk⟩| ⟨a,cap,hv,_⟩
 . exact⟨R,0,by rw[hv,hk];rfl⟩
 . exact⟨V a,cap,hv⟩
end
section
open Go.RowKit BM
def KR(w:Z)(B:Nat)(v:I)(L:List Bool):Prop:=w.ownsRow B 4 1 v L.length (L.map I.bool)
theorem KR.more{w:Z}{B B':Nat}{v:I}{L:List Bool}(h:KR w B v L)(hB:B'<=B):KR w B' v L:=by
 refine⟨h.1,?_⟩;rcases h.2 with h| ⟨g,cap,cur,hv,hg,r⟩
 . exact AU h
 . exact AW ⟨g,cap,cur,hv,AI hB hg,r⟩
theorem ro(w:Z)(B:Nat):KR w B (Ak R 0 0) []:=⟨by simp,AU ⟨rfl,rfl⟩⟩
theorem KR.ksl{w:Z}{B:Nat}{v:I}{L:List Bool}(h:KR w B v L):KSl w v L:=by
 rcases h.2 with⟨hv,hl⟩| ⟨g,cap,cur,hv,hg,hh,Ii,Jq,Jr,ht⟩
 . exact AU ⟨hv,AO hl⟩
 . refine AW ⟨_,cap,hv,fun j hj=>⟨(Ah.1 hh).1,rfl,?_⟩⟩
   show w.cell? ⟨g,0+j,R⟩=_
   rw[Br,Aq _ _ _ _ _ _ hh];have:(cur.toList.take (L.length*1))[j]? =(L.map I.bool)[j]? :=(by rw[ht]);rw[AZ,Au (by omega)] at this
   simpa [hj] using this
theorem kh{w:Z}{p:Nat}{v:I}{L:List Bool}(hp:w.cell? ⟨p,0,R⟩=V v)(hk:KSl w v L)(hn:L.length<=4096):
 Av U 113 #[Al (V ⟨p,0,R⟩)] w fun e w'=>e=Aj (Y E (D9 L))/\w=w':=by
 rcases hk with⟨rfl,rfl⟩| ⟨⟨g,off,spot⟩,cap,rfl,hc⟩
 . go_enter Tryz.func113,Tryz.ntmps113
   go_wp2;refine wp_loop_rounds 1 ?_;rw[rounds_succ];go_wp2;go_ret;exact⟨rfl,rfl⟩
 . have hx:∀ j,j<L.length->w.cell? ⟨g,off+j,R⟩=V (AP (L.getD j X)):=fun j hj=>by
    obtain⟨_,h2,h3⟩:=hc j hj;exact h3
   have ZI:0<L.length->spot=R:=fun h=>(hc 0 h).2.1
   clear hc;have HX:=wM hx;have HSP:=wM ZI;clear hx ZI;go_enter Tryz.func113,Tryz.ntmps113;go_wp2_with fail
   go_loop [3,10] (fun c i=>∃ k:Nat,k<=L.length/\i=Y E k/\c=Y E (D9 (L.take k))) (fun _ i=>L.length-(intOf i).toNat)
   case atStart=>exact⟨0,by omega,rfl,rfl⟩
   case round=>
    obtain⟨k,hk,rfl,rfl⟩:=hrel;have Lo:=J3 L k;obtain⟨C,hC⟩:=nm (D9 (L.take k));rw[<- hC] at Lo |-
    by_cases hlt:k<L.length
    . obtain rfl:spot=R:=HSP.out (by omega)
      have I8:=Oo hlt;have hc:=HX.out k hlt;cases hb:L.getD k X
      . rw[hb,Ax (by decide),<- hC] at I8
        rw[hb] at hc;have HS:=wM I8;clear hb I8 hC;go_wp2_with fail
        go_round
        case rel=>exact⟨k+1,by omega,by go_num,by rw[HS.out];go_num⟩
        case measure=>simp[intOf];omega
      . rw[hb,Au rfl,<- hC] at I8
        rw[hb] at hc;have HS:=wM I8;clear hb I8 hC;go_wp2_with fail
        go_round
        case rel=>exact⟨k+1,by omega,by go_num,by rw[HS.out];go_num⟩
        case measure=>simp[intOf];omega
    . have HC:=wM hC
      clear hC;go_wp2_with fail
      go_ret;exact⟨Jd (by rw[HC.out,AR (by omega)]),rfl⟩
theorem KSl.open'{w:Z}{v:I}{L:List Bool}(h:KSl w v L):∃ ao cap,v=Ak ao L.length cap/\(0<L.length->∃ g off,ao=V ⟨g,off,R⟩/\g<w.heap.size/\∀ j,j<L.length->w.cell? ⟨g,off+j,R⟩=V (AP (L.getD j X))):=by
 rcases h with⟨rfl,rfl⟩| ⟨⟨g,off,spot⟩,cap,rfl,hc⟩
 . exact⟨R,0,rfl,fun h=>by simp at h⟩
 . refine⟨_,cap,rfl,fun h0=>?_⟩
   obtain⟨h1,h2,_⟩:=hc 0 h0;obtain rfl:spot=R:=h2;exact⟨g,off,rfl,h1,fun j hj=>(hc j hj).2.2⟩
theorem lC{w:Z}{p:Nat}{v:I}{L:List Bool}(hp:w.cell? ⟨p,0,R⟩=V v)(hpl:p<w.heap.size)(hk:KSl w v L)(hn:L.length<=4096)(l:List Int)(hr:Rep l L):
 Av U 115 #[Al (V ⟨p,0,R⟩)] w (Pe w l):=by
 have hlen:=hr.len;obtain⟨ao,cap,rfl,hx⟩:=hk.open';obtain⟨N,hN⟩:=nm l.length;rw[<- hN] at hlen;have e8:((L.length:Int)+7) / 8=(N:Int):=by omega
 have hNN:N<=600:=by omega
 have HN:=wM hN;have HX:=wM hx;have HE:=wM e8;have HL:=wM hlen;have hbl:Ap w.heap.size w (w.alloc (Am (AK N (Y .u8 0)) 5)):=(AC _ _).alloc (At _) _;have IL:(w.alloc (Am (AK N (Y .u8 0)) 5)).cell? ⟨p,0,R⟩=V (Ak ao L.length cap):=by rw[hbl.cell (by exact hpl)];exact hp
 clear hN hx e8 hlen hk;go_enter Tryz.func115,Tryz.ntmps115;go_wp2_with (at_make;refine CJ _ rfl _ _ rfl _ N rfl rfl HE.out (by omega) ?_)
 go_loopw [18] (fun i wr=>∃ (k:Nat) (m:List Int),k<=L.length/\i=Y E k/\Hid (Rep m (part L k))/\Hid (wr.heap[w.heap.size]? =V (Am (m.map (Y .u8)).toArray 5 (0,0)))/\Ap w.heap.size w wr)
  (fun i _=>L.length-(intOf i).toNat)
 case atStart=>
  refine⟨0,Aw ((L.length+7) / 8) 0,by omega,rfl,?_,?_,hbl⟩
  . rw[cy];exact ak L.length
  . rw[Ar,<- HL.out];simp[Hid]
 case round=>
  obtain⟨k,m,hk,rfl,hrep,hgm,hbr⟩:=hrel;have bh:=hrep.out.len;rw[Iu L k hk,<- HL.out] at bh;have HML:=wM bh;clear bh;have hp:=(hbr.cell (p:=⟨p,0,R⟩) hpl).trans hp;by_cases WM:k<L.length
  . obtain⟨g,off,rfl,MX,Uu⟩:=HX.out (by omega)
    have hkN:k / 8<N:=(by have:=HL.out;omega);have hkN':(k:Int) / 8<(N:Int):=(by omega);have mc:=(hbr.cell (p:=⟨g,off+k,R⟩) MX).trans (Uu k WM);clear Uu;cases hb:L.getD k X
    . rw[hb] at mc
      have HP:=wM (RS L k WM X hb);clear hb;go_wp2_with fail
      go_roundw
      case rel=>
       refine⟨k+1,m,by omega,by go_num,?_,hgm,hbr⟩;have:=HP.out;rw[Ax (by decide)] at this;rw[this];exact hrep
      case measure=>simp[intOf];omega
    . rw[hb] at mc
      have HP:=wM (RS L k WM AE hb);have hxb:=hrep.out.byte (k / 8);obtain⟨x,hx⟩:=nm (m.getD (k / 8) 0);have MW:wr.cell? ⟨w.heap.size,k / 8,R⟩=V (Y .u8 x):=by
       rw[Aq _ _ _ _ _ _ hgm.out,hx];simp[HML.out,hkN]
      have Kn:wr.frozen? ⟨w.heap.size,k / 8,R⟩=X:=frozen_of_row _ _ _ _ _ hgm.out;rw[<- hx] at hxb;have HXX:=wM hx;clear hb hx;go_wp2_with fail
      go_region
      go_wp2_with fail
      go_roundw
      case rel=>
       have rW:k%8<8:=Nat.mod_lt _ (by omega);have hpl:k<(part L k).length:=(by rw[Iu L k hk];exact WM);have hset:=Z0 hrep.out k AE hpl (bits BinOp.or IntKind.u8 x (2 ^ (k%8)%256)) (by rw[oA x _ rW hxb.1 hxb.2,<- HXX.out];rfl);have hP:=HP.out;rw[Au trivial] at hP;refine⟨k+1,_,by omega,by go_num,by rw[hP];exact hset,?_,?_⟩
       . show(wr.setCell _ _).heap[w.heap.size]? =_
         rw[A8 _ _ _ _ _ _ hgm.out,List.map_set];simp
       . exact(hbr.setCell (p:=⟨w.heap.size,k / 8,R⟩) (At _) _).drew
      case measure=>simp[intOf];omega
  . go_wp2_with fail
    go_ret;have hr2:=hrep.out;rw[iT L k (by omega)] at hr2;obtain rfl:m=l:=SQ hr2 hr;exact⟨_,rfl,by rw[HN.out];exact aS hr.byte hgm.out _ (by first|omega|exact At _),hbr⟩
end
end Go.Proofs.YtfpdajplfmakhaaGreatDoor
