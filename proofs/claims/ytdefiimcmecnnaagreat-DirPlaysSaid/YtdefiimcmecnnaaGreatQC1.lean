/- What the law rests on. -/
import Derived.WalkKit
import Derived.Laws.BitsAllLaws
import Derived.Test.YtdefiimcmecnnaaGreatRows
import Derived.WalkSpells
import Derived.WalkLawsBesides
import Derived.BigQuiet
import Derived.Lib.Hide
import Derived.Laws.CopyOwn
import Derived.Laws.BytesArg
import Derived.Laws.AppendOwnNone
import Derived.Maps.AppendAt
import Derived.OwnWalk
import Derived.OpenShut
import Derived.SizedLaws
import Derived.Deep.QuietTactic
import Derived.Deep.MidRow
import Derived.Deep.WholeRow
import Derived.Deep.CutRange
import Derived.IntWalk
open Go.Value renaming int->Y,slice->Ak,pointer->Am,tuple->AO,bool->A1,agg->BD
open Go.IntKind renaming i64->V
open Go.Proofs.Tryz renaming prog->X
open Option renaming none->T,some->U
open Go.Ending renaming returned->I
open Go renaming World->Z,Value->W,Calls->S,Oper->BS,wpList->Cn
open Go.Obj renaming cells->Ar
open Go.RowKit renaming Below->At
open List renaming set_cons_succ->Au,set_cons_zero->Av,replicate->AD,nil_append->B0,length_cons->Ch,range->Co
open Bool renaming false->E,true->A
open Or renaming inl->AN,inr->Ba
open Array renaming replicate->A3
open Int renaming toNat_natCast->B5
namespace Go.Proofs.YtdefiimcmecnnaaGreat
set_option maxHeartbeats 12000000
set_option linter.unusedVariables false
set_option maxRecDepth 100000
theorem Al:type_of% @Array.getElem?_eq_some_iff:=@Array.getElem?_eq_some_iff
theorem An:type_of% @List.getD_eq_getElem?_getD:=@List.getD_eq_getElem?_getD
theorem Aw:type_of% @Go.heap_alloc_new:=@Go.heap_alloc_new
theorem Ax:type_of% @List.length_append:=@List.length_append
theorem Az:type_of% @Go.cell_of_row:=@Go.cell_of_row
theorem AB:type_of% @Nat.le_refl:=@Nat.le_refl
theorem AC:type_of% @if_pos:=@if_pos
theorem AE:type_of% @if_neg:=@if_neg
theorem AF:type_of% @decide_eq_true:=@decide_eq_true
theorem AG:type_of% @decide_eq_false:=@decide_eq_false
theorem AH:type_of% @Nat.lt_of_lt_of_le:=@Nat.lt_of_lt_of_le
theorem AK:type_of% @List.length_take:=@List.length_take
theorem AM:type_of% @Go.RowKit.Below.refl:=@Go.RowKit.Below.refl
theorem AQ:type_of% @List.append_assoc:=@List.append_assoc
theorem AS:type_of% @List.getElem?_eq_getElem:=@List.getElem?_eq_getElem
theorem AT:type_of% @Nat.le_trans:=@Nat.le_trans
theorem AU:type_of% @List.length_drop:=@List.length_drop
theorem AV:type_of% @List.take_of_length_le:=@List.take_of_length_le
theorem AY:type_of% @Bool.and_eq_true:=@Bool.and_eq_true
theorem AZ:type_of% @List.getElem?_take:=@List.getElem?_take
theorem A0:type_of% @Go.Value.slice.inj:=@Go.Value.slice.inj
theorem A5:type_of% @List.getElem?_eq_none:=@List.getElem?_eq_none
theorem A7:type_of% @of_decide_eq_true:=@of_decide_eq_true
theorem Bb:type_of% @List.eq_nil_of_length_eq_zero:=@List.eq_nil_of_length_eq_zero
theorem Bd:type_of% @decide_eq_true_eq:=@decide_eq_true_eq
theorem Bi:type_of% @List.ext_getElem:=@List.ext_getElem
theorem Bj:type_of% @List.getElem?_eq_some_iff:=@List.getElem?_eq_some_iff
theorem Bk:type_of% @List.length_map:=@List.length_map
theorem Bm:type_of% @Nat.zero_add:=@Nat.zero_add
theorem Bn:type_of% @List.take_succ_eq_append_getElem:=@List.take_succ_eq_append_getElem
theorem Bo:type_of% @List.mem_range:=@List.mem_range
theorem Bp:type_of% @List.getElem?_drop:=@List.getElem?_drop
theorem Bq:type_of% @Go.heap_setCell_other:=@Go.heap_setCell_other
theorem Bs:type_of% @Go.heap_setCell_same:=@Go.heap_setCell_same
theorem By:type_of% @Go.info_parts:=@Go.info_parts
theorem BF:type_of% @List.getElem?_replicate:=@List.getElem?_replicate
theorem BG:type_of% @List.getElem?_append_right:=@List.getElem?_append_right
theorem BH:type_of% @congrArg:=@congrArg
theorem BR:type_of% @List.eq_of_mem_replicate:=@List.eq_of_mem_replicate
theorem BT:type_of% @List.getElem?_append_left:=@List.getElem?_append_left
theorem BW:type_of% @List.getElem_of_mem:=@List.getElem_of_mem
theorem B8:type_of% @List.take_length:=@List.take_length
theorem Cb:type_of% @Go.Addr.add_lit:=@Go.Addr.add_lit
theorem Ck:type_of% @Go.World.ownsRow.lt:=@Go.World.ownsRow.lt
theorem Cq:type_of% @List.mem_map:=@List.mem_map
theorem Cr:type_of% @Go.setRow_heap:=@Go.setRow_heap
theorem Cv:type_of% @List.map_append:=@List.map_append
theorem CC:type_of% @List.mem_cons_of_mem:=@List.mem_cons_of_mem
theorem CD:type_of% @List.flatMap_cons:=@List.flatMap_cons
theorem CM:type_of% @Go.wpList_plain:=@Go.wpList_plain
theorem CP:type_of% @List.drop_zero:=@List.drop_zero
theorem CT:type_of% @List.take_append_of_le_length:=@List.take_append_of_le_length
theorem C0:type_of% @List.mem_append:=@List.mem_append
theorem C2:type_of% @Go.run_underlying:=@Go.run_underlying
theorem Df:type_of% @Go.World.cell?_alloc_lt:=@Go.World.cell?_alloc_lt
theorem Dg:type_of% @List.mem_of_mem_take:=@List.mem_of_mem_take
theorem Dl:type_of% @List.take_left':=@List.take_left'
theorem Dq:type_of% @List.drop_eq_getElem_cons:=@List.drop_eq_getElem_cons
theorem Dv:type_of% @Go.all_oneCell_toArray:=@Go.all_oneCell_toArray
theorem Dw:type_of% @Int.emod_eq_of_lt:=@Int.emod_eq_of_lt
theorem DE:type_of% @Go.Sem.run_bind:=@Go.Sem.run_bind
theorem DT:type_of% @List.take_length_add_append:=@List.take_length_add_append
theorem D6:type_of% @Nat.add_assoc:=@Nat.add_assoc
theorem Eb:type_of% @List.flatMap_append:=@List.flatMap_append
theorem E4:type_of% @Go.World.ownsRow_nil:=@Go.World.ownsRow_nil
theorem FD:type_of% @Nat.mod_two_eq_zero_or_one:=@Nat.mod_two_eq_zero_or_one
theorem Gl:type_of% @Nat.mod_lt:=@Nat.mod_lt
theorem Hi:type_of% @List.range_succ:=@List.range_succ
theorem Jd:type_of% @List.map_toArray:=@List.map_toArray
theorem J5:type_of% @List.map_cons:=@List.map_cons
theorem Mh:type_of% @Go.wpList_append_own:=@Go.wpList_append_own
theorem Sd:type_of% @List.map_nil:=@List.map_nil
theorem nm{α:Type _}(a:α):∃ x,x=a:=⟨a,rfl⟩
theorem vJ{p:Prop}(h:p):RowKit.Hid p:=Lib.hid h
section
open Go
def BN(n:Int)(k:Nat):List Int:=(Co k).map fun i=>n / 2 ^ (8*i)%256
theorem Bc(n:Int)(k:Nat):(BN n k).length=k:=by simp[BN]
theorem Hz(n:Int)(k:Nat):BN n (k+1)=BN n k ++ [n / 2 ^ (8*k)%256]:=by
 simp[BN,Hi]
theorem Hy(n:Int):BN n 0=[]:=rfl
theorem lm(n:Int)(k:Nat):∀ x∈BN n k,0<=x/\x<=255:=by
 intro x hx;simp only[BN,Cq,Bo] at hx;obtain⟨i,_,rfl⟩:=hx;have:=Int.emod_nonneg (n / 2 ^ (8*i)) (show(256:Int)≠0 by decide);have:=Int.emod_lt_of_pos (n / 2 ^ (8*i)) (show(0:Int)<256 by decide);omega
theorem jY(n:Int)(j:Nat):n / 2 ^ (8*j) / 2 ^ 8=n / 2 ^ (8*(j+1)):=by
 rw[Int.ediv_ediv_of_nonneg (by exact Int.le_of_lt (Int.pow_pos (by decide))),<- Int.pow_add];rfl
def bj:List Int->Int
 |[]=>0
 |x :: r=>x+256*bj r
theorem VO(l:List Int)(x:Int):bj (l ++ [x])=bj l+x*256 ^ l.length:=by
 induction l with
 |nil=>simp[bj]
 |cons y r ih=>
  simp only[List.cons_append,bj,ih,Ch,Int.pow_succ];rw[Int.mul_add,Int.mul_left_comm 256 x,Int.mul_comm 256 (256 ^ r.length)];omega
def Cc(l:List Int)(at_ size:Nat):Int:=bj ((l.drop at_).take size)
theorem SY(l:List Int)(a k:Nat)(h:a<l.length):Cc l a (k+1)=l.getD a 0+256*Cc l (a+1) k:=by
 unfold Cc;rw[Dq h,List.take_succ_cons,bj];simp[h]
theorem On(l:List Int)(a:Nat):Cc l a 0=0:=by simp[Cc,bj]
theorem gk(l:List Int)(h:∀ x∈l,0<=x/\x<=255):0<=bj l/\bj l<256 ^ l.length:=by
 induction l with
 |nil=>simp[bj]
 |cons x r ih=>
  have h1:=h x (by simp);have h2:=ih fun y hy=>h y (by simp[hy])
  simp only[bj,Ch,Int.pow_succ];omega
theorem In(k:Nat):(1:Int)<=256 ^ k:=by
 induction k with
 |zero=>simp
 |succ n ih=>rw[Int.pow_succ];omega
theorem F8{k m:Nat}(h:k<=m):(256:Int) ^ k<=256 ^ m:=by
 induction m with
 |zero=>obtain rfl:k=0:=by omega
        exact Int.le_refl _
 |succ n ih=>
  by_cases e:k=n+1
  . rw[e];exact Int.le_refl _
  . have:=ih (by omega)
    have:=In n;rw[Int.pow_succ];omega
theorem D4{l:List Int}(h:∀ x∈l,0<=x/\x<=255)(a k:Nat):0<=Cc l a k/\Cc l a k<256 ^ k:=by
 have hb:=gk ((l.drop a).take k) fun x hx=>h x (List.mem_of_mem_drop (Dg hx))
 have hl:((l.drop a).take k).length<=k:=by simp;omega
 have hp:=F8 hl;unfold Cc;omega
theorem km(a x:Int)(k:Nat)(ha:0<=a)(hx0:0<=x)(hx:x<2 ^ k)(hs:a*2 ^ k<18446744073709551616)(hxs:x<18446744073709551616):
 bits BinOp.or IntKind.u64 (a*2 ^ k) x=a*2 ^ k+x:=by
 obtain⟨m,rfl⟩:∃ m:Nat,a=m:=⟨a.toNat,by omega⟩;obtain⟨y,rfl⟩:∃ y:Nat,x=y:=⟨x.toNat,by omega⟩;have e:(m:Int)*2 ^ k=((m*2 ^ k:Nat):Int):=by push_cast;rfl
 have hy:y<2 ^ k:=by
  have:((y:Nat):Int)<((2 ^ k:Nat):Int):=by push_cast;exact hx
  omega
 rw[e] at hs |-
 rw[u64_or_nat _ _ (by omega) (by omega)];have:=Nat.shiftLeft_add_eq_or_of_lt hy m;rw[Nat.shiftLeft_eq] at this;rw[<- this];push_cast;rfl
def Qs(h c:Int):Int:=bits BinOp.xor IntKind.u32 h c*16777619%4294967296
def FB(l:List Int):Int:=l.foldl Qs 2166136261
theorem FK(h c:Int):0<=Qs h c/\Qs h c<4294967296:=
 ⟨Int.emod_nonneg _ (by decide),Int.emod_lt_of_pos _ (by decide)⟩
theorem FY(l:List Int):0<=FB l/\FB l<4294967296:=by
 unfold FB;rcases List.eq_nil_or_concat l with rfl| ⟨r,x,rfl⟩
 . exact⟨by decide,by decide⟩
 . rw[List.concat_eq_append,List.foldl_append]
   exact FK _ _
theorem Tb(l:List Int)(j:Nat)(h:j<l.length):FB (l.take (j+1))=Qs (FB (l.take j)) (l.getD j 0):=by
 unfold FB;rw[Bn h,List.foldl_append];simp[h]
theorem OF(j:Nat):(256:Int) ^ j=2 ^ (8*j):=by rw[Int.pow_mul];rfl
def DM(l:List Int):List Int:=l ++ AD (252-l.length) 0
def BU(l:List Int):List Int:=DM l ++ BN (FB (DM l)) 4
theorem EU(l:List Int)(h:l.length<=252):(DM l).length=252:=by simp[DM];omega
theorem Dt(l:List Int)(h:l.length<=252):(BU l).length=256:=by rw[BU,Ax,EU l h,Bc]
def FG(l:List Int):Prop:=l.length=256/\Cc l 252 4=FB (l.take 252)
theorem Kq(n:Int)(k:Nat)(h:0<=n):bj (BN n k)=n%256 ^ k:=by
 induction k with
 |zero=>simp[Hy,bj,Int.emod_one]
 |succ k ih=>
  rw[Hz,VO,ih,Bc,<- OF,Int.pow_succ];have hp:(0:Int)<256 ^ k:=by have:=In k;omega
  generalize (256:Int) ^ k=p at*
  have h1:=Int.mul_ediv_add_emod n p;have h2:=Int.mul_ediv_add_emod (n / p) 256;have h3:=Int.emod_nonneg n (show p≠0 by omega);have h4:=Int.emod_lt_of_pos n hp;have h5:=Int.emod_nonneg (n / p) (show(256:Int)≠0 by decide);have h6:=Int.emod_lt_of_pos (n / p) (show(0:Int)<256 by decide);have h7:n=p*256*(n / p / 256)+(n%p+n / p%256*p):=by
   have e:p*(n / p)=p*(256*(n / p / 256)+n / p%256):=(by rw[h2]);rw[Int.mul_add,<- Int.mul_assoc] at e;rw[Int.mul_comm (n / p%256) p];omega
  have h8:n%p+n / p%256*p<p*256:=by
   have:n / p%256*p<=255*p:=Int.mul_le_mul_of_nonneg_right (by omega) (by omega);omega
  have h9:0<=n%p+n / p%256*p:=by
   have:=Int.mul_nonneg h5 (Int.le_of_lt hp);omega
  generalize hr:n%p+n / p%256*p=r at*
  conv=>rhs;rw[h7]
  rw[Int.mul_add_emod_self_left];exact(Dw h9 h8).symm
theorem jS(l:List Int)(n:Int)(k:Nat)(h:0<=n):Cc (l ++ BN n k) l.length k=n%256 ^ k:=by
 unfold Cc;rw[List.drop_left,AV (by rw[Bc];exact AB _),Kq n k h]
theorem JS(l:List Int)(hl:l.length<=252):FG (BU l):=by
 have hf:=EU l hl;have hb:=FY (DM l);refine⟨Dt l hl,?_⟩;have e1:(BU l).take 252=DM l:=by rw[BU,<- hf,Dl];rfl
 rw[e1];have:Cc (BU l) 252 4=FB (DM l)%256 ^ 4:=by
  have:=jS (DM l) (FB (DM l)) 4 hb.1;rw[hf] at this;exact this
 rw[this];exact Dw hb.1 hb.2
end
section
open Go.RowKit Go.ChangeShapes Go.WideShapes
theorem JN{k:IntKind}{a b:Int}(h:a=b):Ending.returned (Y k a)=I (Y k b):=by rw[h]
theorem CV{a b:Bool}(h:a=b):Ending.returned (A1 a)=I (A1 b):=by rw[h]
theorem A2{B:Nat}{a w:Z}(h:At B a w)(n:Nat):At B a (w.drewN n):=⟨h.os,h.tape,h.output,h.size,h.block⟩
theorem Ay(w:Z)(o:Obj):At w.heap.size w (w.alloc o):=(AM _ _).alloc (AB _) _
theorem Ce{P:Program}{f:FuncId}{args:Array W}{w:Z}{n:Nat}{v:W}
 (h:S P f args (w.drewN n) fun e w'=>e=I v/\w.drewN n=w'):S P f args (w.drewN n) fun e w''=>e=I v/\∃ m,w''=w.drewN m:=
 S.quiet_of_same (h.mono fun _ _ ⟨he,hw⟩=>⟨he,hw.symm⟩)
def FJ(l:List Int):Prop:=∀ j,0<=l.getD j 0/\l.getD j 0<=255
theorem Gq:FJ []:=fun j=>by simp
theorem CE{l:List Int}(h:∀ x∈l,0<=x/\x<=255):FJ l:=fun j=>by
 by_cases hj:j<l.length
 . have:l.getD j 0∈l:=by simp[hj]
   exact h _ this
 . rw[An,A5 (by omega)];exact⟨by decide,by decide⟩
theorem CZ{l:List Int}(h:FJ l):∀ x∈l,0<=x/\x<=255:=fun x hx=>by
 obtain⟨j,hj,rfl⟩:=BW hx;have:=h j
 simpa [hj] using this
theorem CS{a b:List Int}(ha:FJ a)(hb:FJ b):FJ (a ++ b):=
 CE fun x hx=>(C0.1 hx).elim (CZ ha x) (CZ hb x)
theorem CW(n:Nat):FJ (AD n 0):=CE fun x hx=>by rw[BR hx];decide
theorem Ez{l:List Int}(h:FJ l)(n:Nat):FJ (l.take n):=CE fun x hx=>CZ h x (Dg hx)
theorem NE{l:List Int}(h:FJ l)(n:Nat):FJ (l.drop n):=CE fun x hx=>CZ h x (List.mem_of_mem_drop hx)
def BSl(w:Z)(v:W)(l:List Int):Prop:=
 FJ l/\((v=Ak T 0 0/\l=[])\/∃ a cap,v=Ak (U a) l.length cap/\l.length<=cap/\∀ j,j<l.length->a.block<w.heap.size/\a.spot=T/\w.cell? ⟨a.block,a.off+j,T⟩=U (Y .u8 (l.getD j 0)))
theorem IL(w:Z):BSl w (Ak T 0 0) []:=⟨Gq,AN ⟨rfl,rfl⟩⟩
theorem BSl.drewN{w:Z}{v:W}{l:List Int}(h:BSl w v l)(n:Nat):BSl (w.drewN n) v l:=h
theorem BSl.keep{w w':Z}{v:W}{l:List Int}(h:BSl w v l)(hs:w.heap.size<=w'.heap.size)(hb:∀ p:Addr,p.block<w.heap.size->w'.cell? p=w.cell? p):BSl w' v l:=by
 refine⟨h.1,?_⟩;rcases h.2 with h| ⟨a,cap,hv,Cm,hc⟩
 . exact AN h
 . refine Ba ⟨a,cap,hv,Cm,fun j hj=>?_⟩
   obtain⟨h1,h2,h3⟩:=hc j hj;exact⟨AH h1 hs,h2,by rw[hb _ (by exact h1),h3]⟩
theorem BSl.below{w w':Z}{v:W}{l:List Int}(h:BSl w v l)(hb:At w.heap.size w w'):BSl w' v l:=
 h.keep hb.size fun _ hp=>hb.cell hp
theorem BSl.shape{w:Z}{v:W}{l:List Int}(h:BSl w v l):∃ ao cap,v=Ak ao l.length cap/\l.length<=cap:=by
 rcases h.2 with⟨hv,hl⟩| ⟨a,cap,hv,Cm,_⟩
 . exact⟨T,0,by rw[hv,hl];rfl,by rw[hl];exact AB _⟩
 . exact⟨U a,cap,hv,Cm⟩
def OB(w:Z)(B:Nat)(v:W)(l:List Int):Prop:=FJ l/\w.ownsRow B 5 1 v l.length (l.map (Y .u8))
theorem OB.bsl{w:Z}{B:Nat}{v:W}{l:List Int}(h:OB w B v l):BSl w v l:=by
 refine⟨h.1,?_⟩;rcases h.2.2 with⟨hv,hl⟩| ⟨g,cap,cur,hv,hg,hh,Hn,LD,Hb,ht⟩
 . exact AN ⟨hv,Bb hl⟩
 . refine Ba ⟨_,cap,hv,Hn,fun j hj=>⟨(Al.1 hh).1,rfl,?_⟩⟩
   show w.cell? ⟨g,0+j,T⟩=_
   rw[Bm,Az _ _ _ _ _ _ hh];have:(cur.toList.take (l.length*1))[j]? =(l.map (Y .u8))[j]? :=(by rw[ht]);rw[AZ,AC (by omega)] at this
   simpa [hj] using this
theorem OB.more{w:Z}{B B':Nat}{v:W}{l:List Int}(h:OB w B v l)(hB:B'<=B):OB w B' v l:=by
 refine⟨h.1,h.2.1,?_⟩;rcases h.2.2 with h| ⟨g,cap,cur,hv,hg,r⟩
 . exact AN h
 . exact Ba ⟨g,cap,cur,hv,AT hB hg,r⟩
theorem OB.below{w w':Z}{B:Nat}{v:W}{l:List Int}(h:OB w B v l)(hb:At w.heap.size w w'):OB w' B v l:=by
 refine⟨h.1,h.2.1,?_⟩;rcases h.2.2 with h| ⟨g,cap,cur,hv,hg,hh,r⟩
 . exact AN h
 . exact Ba ⟨g,cap,cur,hv,hg,by rw[hb.block g (Al.1 hh).1];exact hh,r⟩
def JZ(w:Z)(l:List Int)(e:Ending)(w':Z):Prop:=
 ∃ v,e=I v/\OB w' w.heap.size v l/\At w.heap.size w w'
theorem F7:(X.info? 5).map (fun i=>(i.zero,i.size,i.bytes))=U (U (Y .u8 0),1,1):=by kernel_rfl
theorem bL(n:Nat):madeCells (Y .u8 0).cells n=A3 n (Y .u8 0):=by
 apply Array.ext';rw[show(Y .u8 0).cells=#[Y .u8 0] from rfl,toList_madeCells_one];simp
theorem DC(w:Z){ops:Array BS}{rest:List BS}{o:BS}{a:Act}{Q:Exit->Act->Z->Prop}
 (hg:o.guard=T) (l c:Operand) (Mr:o.op=Op.makeSlice 49 l c) (L C:Int) (n m:Nat) (hl:a.eval l=Y V L) (hc:a.eval c=Y V C) (hL:L=n) (hC:C=m) (Vs:n<=m) (hn:m<=200000000000000)
 (hK:Cn X ops Q rest (a.put o.dst (Ak (U ⟨w.heap.size,0,T⟩) n m)) (w.alloc (Ar (A3 m (Y .u8 0)) 5))):
 Cn X ops Q (o :: rest) a w:=by
 refine CM hg fun K hK'=>?_
 obtain⟨i,h2,h3,h4,h5⟩:=By F7;subst hL;subst hC;have DY:=run_make (P:=X) w 49 5 i (Y .u8 0) Tryz.underlying49 h2 h3 V V n m (by omega) (by omega) (by rw[h5];omega) (by omega);unfold BS.wp;simp only[B5,h4,Nat.mul_one,bL] at DY;simp[execOp,Mr,hl,hc,DY,Result.andThen];exact hK' _ _ hK
theorem C9(w:Z){ops:Array BS}{rest:List BS}{o:BS}{a:Act}{Q:Exit->Act->Z->Prop}
 (hg:o.guard=T) (l c:Operand) (Mr:o.op=Op.makeSlice 49 l c) (C:Int) (n:Nat) (hl:a.eval l=Y V C) (hc:a.eval c=Y V C) (hC:C=n) (hn:n<=200000000000000)
 (hK:Cn X ops Q rest (a.put o.dst (Ak (U ⟨w.heap.size,0,T⟩) n n)) (w.alloc (Ar (A3 n (Y .u8 0)) 5))):
 Cn X ops Q (o :: rest) a w:=DC w hg l c Mr C C n n hl hc hC hC (AB _) hn hK
def Wrote(w w':Z)(g:Nat):Prop:=w'.os=w.os/\w'.tape=w.tape/\w'.output=w.output/\w'.heap.size=w.heap.size/\∀ k,k≠g->w'.heap[k]? =w.heap[k]?
theorem Wrote.refl(w:Z)(g:Nat):Wrote w w g:=⟨rfl,rfl,rfl,rfl,fun _ _=>rfl⟩
theorem Wrote.setCell(w:Z)(g o:Nat)(u:W):Wrote w (w.setCell ⟨g,o,T⟩ u) g:=
 ⟨rfl,rfl,rfl,by simp[Z.setCell],fun k hk=>Bq w ⟨g,o,T⟩ k u hk⟩
theorem Wrote.below{w w':Z}{g B:Nat}(h:Wrote w w' g)(hB:B<=g):At B w w':=
 ⟨h.1,h.2.1,h.2.2.1,by rw[h.2.2.2.1];exact AB _,fun k hk=>h.2.2.2.2 k (by omega)⟩
theorem Wrote.setRow(w:Z)(g:Nat)(cs:Array W):Wrote w (w.setRow g cs) g:=
 ⟨rfl,rfl,rfl,by simp[Z.setRow],fun k hk=>setRow_other w g k cs hk⟩
theorem C8{P:Program}{w:Z}{ops:Array BS}{rest:List BS}{o:BS}{a:Act}{Q:Exit->Act->Z->Prop}(Dn:o.guard=T)(d s:Operand)(dT sT:TypeId)
 (ho:o.op=.call { callee:=.builtin .copy,args:=#[d,s],argTypes:=#[dT,sT] }) (elem:TypeId) (hu:P.underlying dT=U (.slice elem)) (En:(P.info? elem).map (·.size)=U 1)
 (dp sp:Option Addr) (dLen dCap sLen sCap:Nat) (hd:a.eval d=Ak dp dLen dCap) (hs:a.eval s=Ak sp sLen sCap)
 (g off:Nat) (cur:List W) (t:TypeId) (hg:w.heap[g]? =U (Ar cur.toArray t (0,0))) (cs:List W) (n:Nat) (hn:cs.length=n) (hnn:n=Nat.min sLen dLen)
 (IK:0<cs.length->dp=U ⟨g,off,T⟩/\∃ ad,sp=U ad/\∀ j v,cs[j]? =U v->w.cell? (ad.add j)=U v)
 (IE:off+cs.length<=cur.length) (h1:∀ v∈cs,v.oneCell'=A)
 (h:∀ w',Hid (w'.heap[g]? =U (Ar (splice cur off cs).toArray t (0,0)))->Wrote w w' g->Cn P ops Q rest (a.put o.dst (goInt n)) w'):
 Cn P ops Q (o :: rest) a w:=by
 subst hn;by_cases h0:cs.length=0
 . obtain rfl:cs=[]:=Bb h0
   refine wpList_copy_nothing Dn d s dT sT ho elem hu En dp sp dLen dCap sLen sCap hd hs (by simpa using hnn.symm) ?_;exact h w (show _=_ by simpa [splice] using hg) (Wrote.refl _ _)
 . obtain⟨rfl,ad,rfl,Vi⟩:=IK (by omega)
   refine wpList_copy_own Dn d s dT sT ho elem hu En g off dLen dCap ad sLen sCap hd hs cur.toArray t hg cs hnn Vi (by simpa using IE) h1 ?_;exact h _ (show _=_ by simpa [splice] using Cr w g _ _ t _ hg) (Wrote.setRow _ _ _)
theorem EW{α:Type}(L cs:List α)(h:cs.length=L.length):splice L 0 cs=cs:=by
 simp[splice,h]
theorem ED{w w1:Z}{ao:Option Addr}{N cap:Nat}{l:List Int}(hs:BSl w (Ak ao N cap) l)(hb:∀ p:Addr,p.block<w.heap.size->w1.cell? p=w.cell? p)(n:Nat):
 0<((l.take n).map (Y .u8)).length->∃ ad,ao=U ad/\∀ j v,((l.take n).map (Y .u8))[j]? =U v->w1.cell? (ad.add j)=U v:=by
 intro IK;rcases hs.2 with⟨_,hl⟩| ⟨a,c,hv,_,hc⟩
 . rw[hl] at IK;simp at IK
 . obtain⟨rfl,_⟩:ao=U a/\N=l.length:=by simpa using ⟨(A0 hv).1,(A0 hv).2.1⟩
   refine⟨a,rfl,fun j v hj=>?_⟩;have MY:j<(l.take n).length:=by simpa using (Bj.1 hj).1
   have tu:j<l.length:=(by rw[AK] at MY;omega);have hjn:j<n:=(by rw[AK] at MY;omega);obtain⟨h1,h2,h3⟩:=hc j tu;obtain⟨b,off,spot⟩:=a;obtain rfl:spot=T:=h2;rw[Cb,hb _ (by exact h1),h3,<- hj];simp[tu,hjn]
theorem OB.of_heap{w:Z}{B g cap:Nat}{l:List Int}{rest:List W}(hb:FJ l)(hB:B<=g)
 (hg:w.heap[g]? =U (Ar ((l.map (Y .u8)) ++ rest).toArray 5 (0,0))) (Cm:cap=l.length+rest.length) (hm:cap<=maxLen):
 OB w B (Ak (U ⟨g,0,T⟩) l.length cap) l:=by
 refine⟨hb,by simp,Ba ⟨g,cap,_,rfl,hB,hg,by omega,hm,by simp[Cm],?_⟩⟩;simp
theorem Rm(w:Z):OB (w.alloc (Ar #[] 5)) w.heap.size (Ak (U ⟨w.heap.size,0,T⟩) 0 0) []:=
 OB.of_heap (l:=[]) (rest:=[]) Gq (AB _) (Aw w _) rfl (by decide)
theorem BY(w:Z){ops:Array BS}{rest:List BS}{o:BS}{a:Act}{Q:Exit->Act->Z->Prop}(Dn:o.guard=T)(s x:Operand)
 (ho:o.op=.call { callee:=.builtin .append,args:=#[s,x],argTypes:=#[49,49] })
 (B:Nat) (v:W) (l:List Int) (hs:a.eval s=v) (hown:OB w B v l) (w0:Z) (u:W) (m:List Int) (hx:a.eval x=u) (hr:BSl w0 u m)
 (hk:∀ p:Addr,p.block<w0.heap.size->w.cell? p=w0.cell? p) (hlen:l.length+m.length<=140737488355328) (hB:B<=w.heap.size)
 (h:∀ v' w',OB w' B v' (l ++ m)->At B w w'->w.grownBy w' v.ownBlock->Cn X ops Q rest (a.put o.dst v') w'):Cn X ops Q (o :: rest) a w:=by
 obtain⟨i,h2,h3,h4,h5⟩:=By F7;obtain⟨ao,cap,rfl,Cm⟩:=hr.shape;have hby:=CS hown.1 hr.1;have e1:(l ++ m).length=l.length+m.length:=Ax;have e2:(l ++ m).map (Y .u8)=l.map (Y .u8) ++ m.map (Y .u8):=Cv;cases ao with
 |none=>
  have hm:m=[]:=by
   rcases hr.2 with⟨_,hl⟩| ⟨_,_,hv,_⟩
   . exact hl
   . simp at hv
  subst hm;have qY:cap=0:=by
   rcases hr.2 with⟨hv,_⟩| ⟨_,_,hv,_⟩
   . simp at hv;exact hv
   . simp at hv
  subst qY;refine wpList_append_own_none Dn s x 49 ho B 5 i 1 Tryz.underlying49 h2 v l.length _ hs hown.2 (by simpa using hx) ?_;exact h v w (by simpa using hown) (AM _ _) (Z.grownBy.refl w _)
 |some ad=>
  have CX:∀ j v,(m.map (Y .u8))[j]? =U v->w.cell? (ad.add j)=U v:=by
   intro j v hj;have MY:j<m.length:=by simpa using (Bj.1 hj).1
   obtain⟨ad',he,hc⟩:=ED hr hk m.length (by simp;omega);obtain rfl:ad=ad':=by simpa using he
   exact hc j v (by simpa using hj)
  refine Mh w Dn s x 49 ho B 5 i (Y .u8 0) 1 1 Tryz.underlying49 h2 h3 h4 h5 rfl (by decide) v l.length _ hs hown.2 ad m.length cap _ hx (by simp) CX (ints_oneCell _ _) (by simp only[maxLen];omega) (by omega) hB fun v' w' h6 h7 _=>?_
  refine h v' w' ⟨hby,by rw[e1,e2];exact h6⟩ ((AM _ _).grown h7 hB fun k hk=>(hown.2.lt k hk).1) h7
theorem ML(x:Int)(h:0<=x/\x<=255):FJ [x]:=CE fun y hy=>by simp at hy;subst hy;exact h
theorem F6(w1:Z)(x:Int){ops:Array BS}{rest:List BS}{o:BS}{a:Act}{Q:Exit->Act->Z->Prop}(Dn:o.guard=T)(s y:Operand)
 (ho:o.op=.call { callee:=.builtin .append,args:=#[s,y],argTypes:=#[49,49] })
 (B:Nat) (v:W) (l:List Int) (hs:a.eval s=v) (hown:OB w1 B v l) (hx:0<=x/\x<=255) (hy:a.eval y=Ak (U ⟨w1.heap.size,0,T⟩) 1 1)
 (hlen:l.length+1<=140737488355328) (hB:B<=w1.heap.size)
 (h:∀ v' w',OB w' B v' (l ++ [x])->At B w1 w'->Cn X ops Q rest (a.put o.dst v') w'):Cn X ops Q (o :: rest) a (w1.alloc (Ar #[Y .u8 x] 5)):=by
 have hbel:At w1.heap.size w1 (w1.alloc (Ar #[Y .u8 x] 5)):=(AM _ _).alloc (AB _) _;have MZ:(w1.alloc (Ar #[Y .u8 x] 5)).heap[w1.heap.size]? =U (Ar #[Y .u8 x] 5 (0,0)):=Aw w1 _;have hr:BSl (w1.alloc (Ar #[Y .u8 x] 5)) (Ak (U ⟨w1.heap.size,0,T⟩) 1 1) [x]:=by
  refine⟨ML x hx,Ba ⟨_,1,rfl,AB _,fun j hj=>?_⟩⟩;have tv:j=0:=by simpa using hj
  subst tv;refine⟨by simp,rfl,?_⟩;rw[Az _ _ _ _ _ _ MZ];rfl
 refine BY _ Dn s y ho B v l hs (hown.below hbel) _ _ [x] hy hr (fun _ _=>rfl) (by simpa using hlen) (by simp;omega) fun v' w' h1 h2 _=>?_
 exact h v' w' h1 ((hbel.mono hB).trans h2)
theorem G3{w:Z}{v:W}{l:List Int}(hs:BSl w v l):(convert 49 9 v).run X w=.ok (.string (strOfNums l)) w:=by
 rcases hs.2 with⟨rfl,rfl⟩| ⟨⟨b,off,spot⟩,cap,rfl,_,hc⟩
 . exact run_convert_bytes_nil w 49 5 Tryz.underlying49 Tryz.underlying5 0 0 _ Tryz.underlying9
 . by_cases h0:l.length=0
   . obtain rfl:l=[]:=Bb h0
     rw[run_convert_bytes_string w 49 9 5 _ _ cap Tryz.underlying49 Tryz.underlying5 Tryz.underlying9,
      run_bytesToString w _ _ cap [] (by simp[loadCells,loadCellsFrom])]
     rfl
   . obtain⟨_,XD,_⟩:=hc 0 (by omega)
     obtain rfl:spot=T:=XD;exact run_convert_bytes_arg w 49 5 Tryz.underlying49 Tryz.underlying5 b off l.length cap l rfl (fun i hi=>(hc i hi).2.2) _ Tryz.underlying9
end
section
namespace BM
def Eg(x:Int)(k:Nat):Bool:=decide (x / 2 ^ k%2=1)
structure Rep (l:List Int) (L:List Bool):Prop where
 len:l.length=(L.length+7) / 8
 byte:∀ j,0<=l.getD j 0/\l.getD j 0<=255
 bit:∀ j,Eg (l.getD (j / 8) 0) (j%8)=L.getD j E
def getB(L:List Bool)(i:Int):Bool:=decide (0<=i) && L.getD i.toNat E
theorem Xz(L:List Bool)(i:Nat):getB L i=L.getD i E:=by simp[getB]
theorem jo(L:List Bool)(i:Int)(h:¬ (0<=i/\i<L.length)):getB L i=E:=by
 unfold getB;by_cases h0:0<=i
 . have:L.length<=i.toNat:=by omega
   simp[A5 this]
 . simp[h0]
theorem RW(k:Nat):Eg 0 k=E:=by simp[Eg]
theorem bG(n:Nat):Rep (AD ((n+7) / 8) 0) (AD n E):=by
 have e:∀ j,(AD ((n+7) / 8) (0:Int)).getD j 0=0:=fun j=>by
  rw[An,BF];split <;> rfl
 refine⟨by simp,fun j=>by rw[e];decide,fun j=>?_⟩;rw[e,RW,An,BF];split <;> rfl
theorem IW(x y:Int)(k:Nat)(h:Eg x k=Eg y k):x / 2 ^ k%2=y / 2 ^ k%2:=by
 simp only[Eg,decide_eq_decide] at h;generalize x / 2 ^ k=p at*
 generalize y / 2 ^ k=q at*
 omega
theorem Wo(x:Int)(h0:0<=x)(h1:x<=255):
 x=x / 2 ^ 0%2+2*(x / 2 ^ 1%2)+4*(x / 2 ^ 2%2)+8*(x / 2 ^ 3%2)+16*(x / 2 ^ 4%2)+32*(x / 2 ^ 5%2)+64*(x / 2 ^ 6%2)+128*(x / 2 ^ 7%2):=by
 omega
theorem j4(x y:Int)(hx:0<=x/\x<=255)(hy:0<=y/\y<=255)(h:∀ k,k<8->Eg x k=Eg y k):x=y:=by
 rw[Wo x hx.1 hx.2,Wo y hy.1 hy.2]
 rw[IW x y 0 (h 0 (by omega)),IW x y 1 (h 1 (by omega)),IW x y 2 (h 2 (by omega)),IW x y 3 (h 3 (by omega)),
  IW x y 4 (h 4 (by omega)),IW x y 5 (h 5 (by omega)),IW x y 6 (h 6 (by omega)),IW x y 7 (h 7 (by omega))]
theorem Uu{l m:List Int}{L:List Bool}(hl:Rep l L)(hm:Rep m L):l=m:=by
 apply Bi (by rw[hl.len,hm.len]);intro j h1 h2;have e1:l[j]=l.getD j 0:=by simp[h1]
 have e2:m[j]=m.getD j 0:=by simp[h2]
 rw[e1,e2];refine j4 _ _ (hl.byte j) (hm.byte j) fun k hk=>?_
 have a:=hl.bit (8*j+k);have b:=hm.bit (8*j+k);rw[show(8*j+k) / 8=j by omega,show(8*j+k)%8=k by omega] at a b;rw[a,b]
theorem UA(x:Int)(k:Nat)(on:Bool)(y:Int)(hk:k<8)(h:y=if on then (if Eg x k then x else x+2 ^ k) else (if Eg x k then x-2 ^ k else x))(hx:0<=x/\x<=255):
 (0<=y/\y<=255)/\∀ j,j<8->Eg y j=if j=k then on else Eg x j:=by
 have key:∀ (b:Bool),Eg x k=b->(0<=y/\y<=255)/\∀ j,j<8->Eg y j=if j=k then on else Eg x j:=by
  intro b hb;rw[hb] at h;have hk':k=0\/k=1\/k=2\/k=3\/k=4\/k=5\/k=6\/k=7:=by omega
  refine⟨?_,fun j hj=>?_⟩
  . rcases hk' with rfl|rfl|rfl|rfl|rfl|rfl|rfl|rfl <;> cases b <;> cases on <;>
     simp[Eg] at hb h <;> omega
  . have hj':j=0\/j=1\/j=2\/j=3\/j=4\/j=5\/j=6\/j=7:=by omega
    rcases hk' with rfl|rfl|rfl|rfl|rfl|rfl|rfl|rfl <;> cases b <;> cases on <;>
     simp[Eg] at hb h <;> rcases hj' with rfl|rfl|rfl|rfl|rfl|rfl|rfl|rfl <;> simp[Eg,h] <;> omega
 exact key _ rfl
theorem getD_set{α:Type}(l:List α)(i j:Nat)(v d:α)(hi:i<l.length):(l.set i v).getD j d=if j=i then v else l.getD j d:=by
 rw[An,List.getElem?_set,An];by_cases h:i=j
 . subst h;simp[hi]
 . rw[AE h,AE (fun e=>h e.symm)]
theorem a_{l:List Int}{L:List Bool}(h:Rep l L)(i:Nat)(on:Bool)(hi:i<L.length)(y:Int)
 (hy:y=if on then (if Eg (l.getD (i / 8) 0) (i%8) then l.getD (i / 8) 0 else l.getD (i / 8) 0+2 ^ (i%8)) else (if Eg (l.getD (i / 8) 0) (i%8) then l.getD (i / 8) 0-2 ^ (i%8) else l.getD (i / 8) 0)):
 Rep (l.set (i / 8) y) (L.set i on):=by
 have hlen:=h.len;have hil:i / 8<l.length:=by omega
 obtain⟨b1,b2⟩:=UA (l.getD (i / 8) 0) (i%8) on y (Gl _ (by omega)) hy (h.byte _);refine⟨by simp[hlen],fun j=>?_,fun j=>?_⟩
 . rw[getD_set _ _ _ _ _ hil];split
   . exact b1
   . exact h.byte j
 . rw[getD_set _ _ _ _ _ hil,getD_set _ _ _ _ _ hi]
   by_cases hj:j / 8=i / 8
   . rw[AC hj,b2 _ (Gl _ (by omega))]
     by_cases e:j=i
     . subst e;simp
     . rw[AE (by omega),AE e,<- h.bit j,hj]
   . rw[AE hj,AE (fun e=>hj (by rw[e])),h.bit j]
def Ff(L:List Bool)(i:Nat):Int:=
 match (L.drop i).findIdx? (fun b=>!b) with
 |some k=>(i+k:Nat)
 |none=> -1
theorem Pf{L:List Bool}{i j:Nat}(l6:i<=j)(hj:j<L.length)(hz:L.getD j E=E)(hb:∀ k,i<=k->k<j->L.getD k E=A):Ff L i=j:=by
 have e:(L.drop i).findIdx? (fun b=>!b)=U (j-i):=by
  rw[List.findIdx?_eq_some_iff_getElem];refine⟨by simp;omega,?_,fun k hk=>?_⟩
  . have:L[j]=E:=by simpa [hj] using hz
    simp only[List.getElem_drop,show i+(j-i)=j by omega,this];rfl
  . have h1:i+k<L.length:=by omega
    have:L[i+k]=A:=by simpa [h1] using hb (i+k) (by omega) (by omega)
    simp only[List.getElem_drop,this];decide
 rw[Ff,e];show((i+(j-i):Nat):Int)=j;congr 1;omega
theorem Pt{L:List Bool}{i:Nat}(hb:∀ k,i<=k->k<L.length->L.getD k E=A):Ff L i= -1:=by
 have e:(L.drop i).findIdx? (fun b=>!b)=T:=by
  rw[List.findIdx?_eq_none_iff];intro x hx;obtain⟨k,hk,rfl⟩:=List.mem_iff_getElem.1 hx;simp only[AU] at hk;have h1:i+k<L.length:=by omega
  have:L[i+k]=A:=by simpa [h1] using hb (i+k) (by omega) h1
  simp only[List.getElem_drop,this];rfl
 rw[Ff,e]
theorem N6(L:List Bool)(i:Nat):(Ff L i= -1/\∀ k,i<=k->k<L.length->L.getD k E=A)\/
 ∃ j:Nat,i<=j/\j<L.length/\Ff L i=j/\L.getD j E=E/\∀ k,i<=k->k<j->L.getD k E=A:=by
 by_cases h:∃ j,i<=j/\j<L.length/\L.getD j E=E
 . obtain⟨j0,a0,b0,c0⟩:=h
   have:∀ n j,j<=n->i<=j->j<L.length->L.getD j E=E->∃ j,i<=j/\j<L.length/\L.getD j E=E/\∀ k,i<=k->k<j->L.getD k E=A:=by
    intro n;induction n with
    |zero=>intro j hn h1 h2 h3;exact⟨j,h1,h2,h3,fun k _ hk=>by omega⟩
    |succ n ih=>
     intro j hn h1 h2 h3;by_cases hk:∃ k,i<=k/\k<j/\L.getD k E=E
     . obtain⟨k,k1,k2,k3⟩:=hk;exact ih k (by omega) k1 (by omega) k3
     . refine⟨j,h1,h2,h3,fun k k1 k2=>?_⟩
       cases hc:L.getD k E
       . exact absurd ⟨k,k1,k2,hc⟩ hk
       . rfl
   obtain⟨j,h1,h2,h3,h4⟩:=this j0 j0 (AB _) a0 b0 c0;exact Ba ⟨j,h1,h2,Pf h1 h2 h3 h4,h3,h4⟩
 . have h':∀ k,i<=k->k<L.length->L.getD k E=A:=fun k k1 k2=>by
    cases hc:L.getD k E
    . exact absurd ⟨k,k1,k2,hc⟩ h
    . rfl
   exact AN ⟨Pt h',h'⟩
def Lh(L:List Bool)(goal:Int):Int:=
 if 0<=goal/\goal<L.length then (if 0<=Ff L goal.toNat then Ff L goal.toNat else Ff L 0) else Ff L 0
def Eo(L:List Bool):Nat:=(L.filter id).length
theorem LY(L:List Bool):Eo L<=L.length:=List.length_filter_le _ _
theorem Pz{L:List Bool}{k:Nat}(h:k<L.length):Eo (L.take (k+1))=Eo (L.take k)+if L.getD k E then 1 else 0:=by
 rw[Bn h,Eo,List.filter_append,Ax,Eo];simp only[An,AS h,Option.getD_some];cases L[k] <;> rfl
theorem Lp(L:List Bool)(k:Nat):Eo (L.take k)<=k:=AT (LY _) (by simp;omega)
end BM
end
section
open Go.RowKit BM
theorem gS(n:Int)(w:Z)(_h0:0<=n)(_h1:n<=4096):
 S X 263 #[Y V n] w fun e w'=>e=I (Y V ((n+7) / 8))/\w=w':=by
 go_enter Tryz.func263,Tryz.ntmps263;go_wp2;go_ret;exact⟨rfl,rfl⟩
theorem R7(n:Int)(w:Z)(_h0:0<=n)(_h1:n<=4096):
 S X 264 #[Y V n] w fun e w'=>e=I (Y .u64 (n%8))/\w=w':=by
 go_enter Tryz.func264,Tryz.ntmps264;go_wp2;go_ret;exact⟨rfl,rfl⟩
theorem WA(p:Nat)(n i:Int)(w:Z)(hc:w.cell? ⟨p,0,T⟩=U (Y V n)):
 S X 257 #[Am (U ⟨p,0,T⟩),Y V i] w fun e w'=>e=I (A1 (decide (0<=i) && decide (i<n)))/\w=w':=by
 by_cases hi:0<=i
 . go_enter Tryz.func257,Tryz.ntmps257
   go_wp2;go_ret;exact⟨by simp[hi],rfl⟩
 . go_enter Tryz.func257,Tryz.ntmps257
   go_wp2;go_ret
   exact⟨by have h:decide (0<=i)=E:=by simpa using hi
            rw[h];rfl,rfl⟩
theorem jd(p:Nat)(n:Int)(w:Z)(hc:w.cell? ⟨p,0,T⟩=U (Y V n)):
 S X 255 #[Am (U ⟨p,0,T⟩)] w fun e w'=>e=I (Y V n)/\w=w':=by
 go_enter Tryz.func255,Tryz.ntmps255;go_wp2;go_ret;exact⟨rfl,rfl⟩
theorem Qg(p:Nat)(n i:Int)(w:Z)(hc:w.cell? ⟨p,0,T⟩=U (Y V n))(h0:0<=i)(h1:i<n):
 S X 257 #[Am (U ⟨p,0,T⟩),Y V i] w fun e w'=>e=I (A1 A)/\w=w':=
 (WA p n i w hc).mono fun e w' ⟨he,hw⟩=>⟨by rw[he];simp[h0,h1],hw⟩
theorem Ru(p:Nat)(n i:Int)(w:Z)(hc:w.cell? ⟨p,0,T⟩=U (Y V n))(h:¬ (0<=i/\i<n)):
 S X 257 #[Am (U ⟨p,0,T⟩),Y V i] w fun e w'=>e=I (A1 E)/\w=w':=
 (WA p n i w hc).mono fun e w' ⟨he,hw⟩=>⟨by rw[he];simp;omega,hw⟩
def BRow(w:Z)(p g:Nat)(L:List Bool):Prop:=
 L.length<=4096/\∃ l,Rep l L/\w.heap[p]? =U (Ar #[Y V L.length,Ak (U ⟨g,0,T⟩) l.length l.length] 318 (0,0))/\w.heap[g]? =U (Ar (l.map (Y .u8)).toArray 5 (0,0))
theorem BRow.drewN{w:Z}{p g:Nat}{L:List Bool}(h:BRow w p g L)(n:Nat):BRow (w.drewN n) p g L:=h
theorem BRow.of_heap{w w':Z}{p g:Nat}{L:List Bool}(h:BRow w p g L)(hp:w'.heap[p]? =w.heap[p]?)(hg:w'.heap[g]? =w.heap[g]?):BRow w' p g L:=by
 obtain⟨h1,l,h2,h3,h4⟩:=h;exact⟨h1,l,h2,by rw[hp,h3],by rw[hg,h4]⟩
theorem BRow.lt{w:Z}{p g:Nat}{L:List Bool}(h:BRow w p g L):p<w.heap.size/\g<w.heap.size:=by
 obtain⟨_,l,_,h3,h4⟩:=h;exact⟨(Al.1 h3).1,(Al.1 h4).1⟩
theorem BRow.below{w w':Z}{p g B:Nat}{L:List Bool}(h:BRow w p g L)(hb:At B w w')(h1:p<B)(h2:g<B):BRow w' p g L:=
 h.of_heap (hb.block p h1) (hb.block g h2)
theorem vu(x:Int)(h0:0<=x)(h1:x<=255)(k:Nat):(bits BinOp.and IntKind.u8 (x / 2 ^ k) 1==1)=Eg x k:=by
 have h2:0<=x / 2 ^ k:=Int.ediv_nonneg h0 (by exact Int.le_of_lt (Int.pow_pos (by decide)));have h3:x / 2 ^ k<=255:=Int.le_trans (Int.ediv_le_self _ h0) h1;generalize hy:x / 2 ^ k=y at*
 rw[u8_and y 1 h2 (by omega) (by decide) (by decide)];unfold Eg;rw[hy];obtain⟨n,rfl⟩:∃ n:Nat,y=n:=⟨y.toNat,by omega⟩;simp only[B5,show(1:Int).toNat=1 from rfl,Nat.and_one_is_mod];rw[Bool.eq_iff_iff];simp
theorem ZR(p g len:Nat)(n x:Int)(i:Nat)(w:Z)(h1:n<=4096)(hi:(i:Int)<n)(hl:i / 8<len)
 (hc:w.cell? ⟨p,0,T⟩=U (Y V n)) (hs:w.cell? ⟨p,1,T⟩=U (Ak (U ⟨g,0,T⟩) len len))
 (hx:w.cell? ⟨g,i / 8,T⟩=U (Y .u8 x)) (_hx0:0<=x) (_hx1:x<=255):
 S X 256 #[Am (U ⟨p,0,T⟩),Y V i] w fun e w'=>e=I (A1 (bits BinOp.and IntKind.u8 (x / 2 ^ (i%8)) 1==1))/\∃ m,w'=w.drewN m:=by
 have hll:(i:Int) / 8<len:=by omega
 go_enter Tryz.func256,Tryz.ntmps256;go_wp2
 go_quiet (first
  |(go_at_call 257;refine Ce (Qg p n i _ (by simpa using hc) (by omega) hi))
  |(go_at_call 264;refine Ce (R7 i _ (by omega) (by omega))))
 go_wp2;go_ret;exact⟨rfl,_,rfl⟩
theorem jm(p:Nat)(n i:Int)(w:Z)(hi:¬ (0<=i/\i<n))(hc:w.cell? ⟨p,0,T⟩=U (Y V n)):
 S X 256 #[Am (U ⟨p,0,T⟩),Y V i] w fun e w'=>e=I (A1 E)/\∃ m,w'=w.drewN m:=by
 go_enter Tryz.func256,Tryz.ntmps256;go_wp2;go_quiet ((go_at_call 257;refine Ce (Ru p n i _ (by simpa using hc) hi)))
 go_wp2;go_ret;exact⟨rfl,_,rfl⟩
theorem BRow.cells{w:Z}{p g:Nat}{L:List Bool}(h:BRow w p g L):∃ l,Rep l L/\w.cell? ⟨p,0,T⟩=U (Y V L.length)/\
 w.cell? ⟨p,1,T⟩=U (Ak (U ⟨g,0,T⟩) l.length l.length)/\(∀ j,j<l.length->w.cell? ⟨g,j,T⟩=U (Y .u8 (l.getD j 0)))/\
 (∀ j,w.frozen? ⟨g,j,T⟩=E)/\w.heap[g]? =U (Ar (l.map (Y .u8)).toArray 5 (0,0)):=by
 obtain⟨_,l,h2,h3,h4⟩:=h;refine⟨l,h2,by rw[Az _ _ _ _ _ _ h3];rfl,by rw[Az _ _ _ _ _ _ h3];rfl,fun j hj=>?_,fun j=>frozen_of_row _ _ _ _ _ h4,h4⟩;rw[Az _ _ _ _ _ _ h4];simp[hj]
theorem jP{w:Z}{p g:Nat}{L:List Bool}(h:BRow w p g L)(i:Int):
 S X 256 #[Am (U ⟨p,0,T⟩),Y V i] w fun e w'=>e=I (A1 (getB L i))/\∃ m,w'=w.drewN m:=by
 have hn:=h.1;obtain⟨l,hr,hc,hs,hx,_,_⟩:=h.cells;by_cases hi:0<=i/\i<L.length
 . obtain⟨k,rfl⟩:∃ k:Nat,i=k:=⟨i.toNat,by omega⟩
   have hl:=hr.len;have hb:=hr.byte (k / 8);refine(ZR p g l.length L.length (l.getD (k / 8) 0) k w (by omega) hi.2 (by omega) hc hs (hx _ (by omega)) hb.1 hb.2).mono fun e w' ⟨he,hw⟩=>⟨?_,hw⟩
   rw[he,vu _ hb.1 hb.2,hr.bit,Xz]
 . rw[jo L i hi]
   exact jm p _ i w hi hc
theorem VC{w:Z}{p g:Nat}{L:List Bool}(h:BRow w p g L):
 S X 255 #[Am (U ⟨p,0,T⟩)] w fun e w'=>e=I (Y V L.length)/\w=w':=by
 obtain⟨l,hr,hc,hs,hx,_,_⟩:=h.cells;exact jd p _ w hc
theorem Oq(n:Int)(k N:Nat)(w:Z)(hn:n=k)(h1:k<=4096)(hN:N=(k+7) / 8):
 S X 263 #[Y V n] w fun e w'=>e=I (Y V N)/\w=w':=
 (gS n w (by omega) (by omega)).mono fun e w' ⟨he,hw⟩=>⟨by rw[he,show(n+7) / 8=((N:Nat):Int) by omega],hw⟩
theorem bP(n:Int)(k:Nat)(hk:k<=4096)(w:Z)(hn:if n<0 then k=0 else if 4096<n then k=4096 else n=k):
 S X 253 #[Y V n] w fun e w'=>e=I (Am (U ⟨w.heap.size+1,0,T⟩))/\BRow w' (w.heap.size+1) w.heap.size (AD k E)/\At w.heap.size w w'/\w'.heap.size=w.heap.size+2:=by
 obtain⟨N,hN⟩:∃ N:Nat,N=(k+7) / 8:=⟨_,rfl⟩
 have fin:∀ (c:Int) w',(c=k)->w'=(w.alloc (Ar (A3 N (Y .u8 0)) 5)).alloc (Ar #[Y V c,Ak (U ⟨w.heap.size,0,T⟩) N N] 318)->
  BRow w' (w.heap.size+1) w.heap.size (AD k E)/\At w.heap.size w w'/\w'.heap.size=w.heap.size+2:=by
  rintro c w' rfl rfl;refine⟨⟨by simpa using hk,_,bG k,?_,?_⟩,((AM _ _).alloc (AB _) _).alloc (by simp) _,by simp⟩
  . rw[heap_alloc2_new];simp[hN]
  . rw[heap_alloc2_old];simp[hN]
 have hnn:N<=4096:=by omega
 have HN:Hid (N=(k+7) / 8):=hN;clear hN;by_cases h1:n<0
 . rw[AC h1] at hn
   have HK:Hid (k=0):=hn;clear hn;go_enter Tryz.func253,Tryz.ntmps253
   go_wp2_with (first
    |(go_at_call 263;refine(Oq _ k N _ (by rw[HK.out];rfl) hk HN.out).mono ?_;rintro e w' ⟨rfl,rfl⟩)
    |(at_make;refine C9 _ rfl _ _ rfl _ N rfl rfl rfl (by omega) ?_))
   go_ret;exact⟨rfl,fin _ _ (by first|exact HK.out|(rw [HK.out];rfl)) rfl⟩
 . rw[AE h1] at hn
   by_cases h2:4096<n
   . rw[AC h2] at hn
     have HK:Hid (k=4096):=hn;clear hn;go_enter Tryz.func253,Tryz.ntmps253
     go_wp2_with (first
      |(go_at_call 263;refine(Oq _ k N _ (by rw[HK.out];rfl) hk HN.out).mono ?_;rintro e w' ⟨rfl,rfl⟩)
      |(at_make;refine C9 _ rfl _ _ rfl _ N rfl rfl rfl (by omega) ?_))
     go_ret;exact⟨rfl,fin _ _ (by first|exact HK.out|(rw [HK.out];rfl)) rfl⟩
   . rw[AE h2] at hn
     have HK:Hid (n=k):=hn;clear hn;go_enter Tryz.func253,Tryz.ntmps253
     go_wp2_with (first
      |(go_at_call 263;refine(Oq _ k N _ HK.out hk HN.out).mono ?_;rintro e w' ⟨rfl,rfl⟩)
      |(at_make;refine C9 _ rfl _ _ rfl _ N rfl rfl rfl (by omega) ?_))
     go_ret;exact⟨rfl,fin _ _ (by first|exact HK.out|(rw [HK.out];rfl)) rfl⟩
theorem qq:∀ k,k<8->∀ n,n<256->(n ||| 2 ^ k)=if n / 2 ^ k%2=1 then n else n+2 ^ k:=by decide +kernel
theorem X8:∀ k,k<8->∀ n,n<256->(n &&& (255-2 ^ k))=if n / 2 ^ k%2=1 then n-2 ^ k else n:=by decide +kernel
theorem SW(n k:Nat):Eg (n:Int) k=decide (n / 2 ^ k%2=1):=by
 unfold Eg;have e:(n:Int) / 2 ^ k%2=((n / 2 ^ k%2:Nat):Int):=by push_cast;rfl
 rw[e];rw[decide_eq_decide];omega
theorem ca(k:Nat)(hk:k<8):IntKind.u64.wrap (2 ^ k)%256=((2 ^ k:Nat):Int):=by
 have h:k=0\/k=1\/k=2\/k=3\/k=4\/k=5\/k=6\/k=7:=by omega
 rcases h with rfl|rfl|rfl|rfl|rfl|rfl|rfl|rfl <;> decide
theorem aQ(k:Nat)(hk:k<8):1<=2 ^ k/\2 ^ k<=128:=
 ⟨Nat.one_le_two_pow,by have:=Nat.pow_le_pow_right (n:=2) (by omega) (show k<=7 by omega);simpa using this⟩
theorem jX(x:Int)(k:Nat)(hk:k<8)(h0:0<=x)(h1:x<=255):bits BinOp.or IntKind.u8 x (IntKind.u64.wrap (2 ^ k)%256)=if Eg x k then x else x+2 ^ k:=by
 obtain⟨n,rfl⟩:∃ n:Nat,x=n:=⟨x.toNat,by omega⟩;have hp:=aQ k hk;have ht:=qq k hk n (by omega);rw[ca k hk,u8_or_nat n (2 ^ k) (by omega) (by omega),ht,SW];by_cases hb:n / 2 ^ k%2=1
 . rw[AC hb,AC (by simpa using hb)]
 . rw[AE hb,AE (by simpa using hb)];push_cast;rfl
theorem ZN(x:Int)(k:Nat)(hk:k<8)(h0:0<=x)(h1:x<=255):bits BinOp.andNot IntKind.u8 x (IntKind.u64.wrap (2 ^ k)%256)=if Eg x k then x-2 ^ k else x:=by
 obtain⟨n,rfl⟩:∃ n:Nat,x=n:=⟨x.toNat,by omega⟩;have hp:=aQ k hk;have ht:=X8 k hk n (by omega);rw[ca k hk,u8_andNot_nat n (2 ^ k) (by omega) (by omega),ht,SW];by_cases hb:n / 2 ^ k%2=1
 . rw[AC hb,AC (by simpa using hb)]
   have:2 ^ k<=n:=by
    rcases Nat.lt_or_ge n (2 ^ k) with h|h
    . rw[Nat.div_eq_of_lt h] at hb;omega
    . exact h
   rw[Int.natCast_sub this];push_cast;rfl
 . rw[AE hb,AE (by simpa using hb)]
theorem Zh(p g len:Nat)(n x:Int)(i:Nat)(on:Bool)(w:Z)(h1:n<=4096)(hi:(i:Int)<n)(hl:i / 8<len)
 (hc:w.cell? ⟨p,0,T⟩=U (Y V n)) (hs:w.cell? ⟨p,1,T⟩=U (Ak (U ⟨g,0,T⟩) len len))
 (hx:w.cell? ⟨g,i / 8,T⟩=U (Y .u8 x)) (hf:w.frozen? ⟨g,i / 8,T⟩=E):
 S X 254 #[Am (U ⟨p,0,T⟩),Y V i,A1 on] w fun e w'=>e=I (Y V 0)/\
  w'=w.setCell ⟨g,i / 8,T⟩ (Y .u8 (if on then bits BinOp.or IntKind.u8 x (IntKind.u64.wrap (2 ^ (i%8))%256) else bits BinOp.andNot IntKind.u8 x (IntKind.u64.wrap (2 ^ (i%8))%256))):=by
 have hll:(i:Int) / 8<len:=by omega
 cases on
 all_goals
  go_enter Tryz.func254,Tryz.ntmps254
  go_wp2_with (first
   |(go_at_call 257;refine(Qg p n i _ hc (by omega) hi).mono ?_;rintro e w' ⟨rfl,rfl⟩)
   |(go_at_call 264;refine(R7 i _ (by omega) (by omega)).mono ?_;rintro e w' ⟨rfl,rfl⟩))
  go_ret;exact⟨rfl,by simp⟩
theorem mg(p:Nat)(n i:Int)(on:Bool)(w:Z)(hi:¬ (0<=i/\i<n))(hc:w.cell? ⟨p,0,T⟩=U (Y V n)):
 S X 254 #[Am (U ⟨p,0,T⟩),Y V i,A1 on] w fun e w'=>e=I (Y V 1)/\w=w':=by
 go_enter Tryz.func254,Tryz.ntmps254;go_wp2_with (go_at_call 257;refine(Ru p n i _ hc hi).mono ?_;rintro e w' ⟨rfl,rfl⟩)
 go_ret;exact⟨rfl,rfl⟩
theorem i6{w:Z}{p g:Nat}{L:List Bool}(h:BRow w p g L)(i:Int)(on:Bool):
 S X 254 #[Am (U ⟨p,0,T⟩),Y V i,A1 on] w fun e w'=>
  e=I (Y V (if 0<=i/\i<L.length then 0 else 1))/\BRow w' p g (if 0<=i/\i<L.length then L.set i.toNat on else L)/\Wrote w w' g:=by
 have hn:=h.1;have hh:=h;obtain⟨l,hr,hc,hs,hx,hf,hg⟩:=h.cells;by_cases hi:0<=i/\i<L.length
 . rw[AC hi,AC hi]
   obtain⟨k,rfl⟩:∃ k:Nat,i=k:=⟨i.toNat,by omega⟩;have hl:=hr.len;have hb:=hr.byte (k / 8);have pF:k%8<8:=Gl _ (by omega);refine(Zh p g l.length L.length (l.getD (k / 8) 0) k on w (by omega) hi.2 (by omega) hc hs (hx _ (by omega)) (hf _)).mono fun e w' ⟨he,hw⟩=>⟨he,?_,?_⟩
   . rw[jX _ _ pF hb.1 hb.2,ZN _ _ pF hb.1 hb.2] at hw
     have oE:=a_ hr k on (by omega) _ rfl;obtain⟨_,l',hr',hp,hg'⟩:=hh;have el:l'=l:=Uu hr' hr;subst el;refine⟨by simpa using hn,_,oE,?_,?_⟩
     . rw[hw,Bq _ _ _ _ (show p≠g from fun e=>by rw[e,hg] at hp;simp at hp)]
       simpa using hp
     . rw[hw,Bs _ _ _ _ _ _ hg]
       congr 1;apply BH (fun c=>Obj.cells c 5 (0,0));rw[List.map_set];apply Array.ext';simp
   . rw[hw];exact Wrote.setCell _ _ _ _
 . rw[AE hi,AE hi]
   exact(mg p _ i on w hi hc).mono fun e w' ⟨he,hw⟩=>⟨he,by rw[<- hw];exact hh,by rw[<- hw];exact Wrote.refl _ _⟩
theorem Nl{w:Z}{p g:Nat}{L:List Bool}(h:BRow w p g L)(i:Nat)(n:Nat)(b:Bool)(hb:L.getD i E=b):
 S X 256 #[Am (U ⟨p,0,T⟩),Y V i] (w.drewN n) fun e w'=>e=I (A1 b)/\∃ m,w'=w.drewN m:=
 (jP (h.drewN n) i).mono fun e w' ⟨he,m,hw⟩=>⟨by rw[he,Xz,hb],n+m,by rw[hw,Z.drewN_drewN]⟩
theorem I9{w:Z}{p g:Nat}{L:List Bool}(h:BRow w p g L)(s:Nat)(lE:s<=L.length):
 S X 258 #[Am (U ⟨p,0,T⟩),Y V s] w fun e w'=>e=I (Y V (Ff L s))/\∃ m,w'=w.drewN m:=by
 have hn:=h.1;obtain⟨l,hr,hc,hs,hx,hf,hg⟩:=h.cells;clear hr hs hx hf hg;go_enter Tryz.func258,Tryz.ntmps258;go_wp2_with fail
 go_loopw [1] (fun i wr=>∃ k:Nat,s<=k/\k<=L.length/\i=Y V k/\Hid (∀ j,s<=j->j<k->L.getD j E=A)/\∃ m,wr=w.drewN m)
  (fun i _=>L.length-(intOf i).toNat)
 case atStart=>exact⟨s,by omega,by omega,rfl,fun j h1 h2=>by omega,0,rfl⟩
 case round=>
  obtain⟨k,hsk,hk,rfl,hall,m,rfl⟩:=hrel;by_cases hlt:k<L.length
  . cases hb:L.getD k E
    . have HB:=vJ hb
      clear hb;go_wp2_with (go_at_call 256;refine(Nl h k _ E HB.out).mono ?_;rintro e w' ⟨rfl,m2,rfl⟩)
      go_ret;exact⟨JN (Pf hsk hlt HB.out hall.out).symm,m2,rfl⟩
    . have HB:=vJ hb
      clear hb;go_wp2_with (go_at_call 256;refine(Nl h k _ A HB.out).mono ?_;rintro e w' ⟨rfl,m2,rfl⟩)
      go_roundw
      case rel=>
       refine⟨k+1,by omega,by omega,by go_num,fun j h1 h2=>?_,m2,rfl⟩;by_cases e:j=k
       . rw[e];exact HB.out
       . exact hall.out j h1 (by omega)
      case measure=>simp[intOf];omega
  . go_wp2_with fail
    go_ret;exact⟨JN (Pt fun j h1 h2=>hall.out j h1 (by omega)).symm,m,rfl⟩
theorem Mq{w:Z}{p g:Nat}{L:List Bool}(h:BRow w p g L)(s:Nat)(lE:s<=L.length)(F:Int)(hF:F=Ff L s):
 S X 258 #[Am (U ⟨p,0,T⟩),Y V s] w fun e w'=>e=I (Y V F)/\∃ m,w'=w.drewN m:=by
 rw[hF];exact I9 h s lE
theorem QY{w:Z}{p g:Nat}{L:List Bool}(h:BRow w p g L)(n:Nat)(F:Int)(hF:F=Ff L 0):
 S X 258 #[Am (U ⟨p,0,T⟩),Y V 0] (w.drewN n) fun e w'=>e=I (Y V F)/\∃ m,w'=w.drewN m:=by
 rw[hF];exact(I9 (h.drewN n) 0 (by omega)).mono fun e w' ⟨he,m,hw⟩=>⟨he,n+m,by rw[hw,Z.drewN_drewN]⟩
theorem Va{w:Z}{p g:Nat}{L:List Bool}(h:BRow w p g L)(F:Int)(hF:F=Ff L 0):
 S X 258 #[Am (U ⟨p,0,T⟩),Y V 0] w fun e w'=>e=I (Y V F)/\∃ m,w'=w.drewN m:=by
 rw[hF];exact I9 h 0 (by omega)
theorem Zs{w:Z}{p g:Nat}{L:List Bool}(h:BRow w p g L)(goal:Int):
 S X 236 #[Am (U ⟨p,0,T⟩),Y V goal] w fun e w'=>e=I (Y V (Lh L goal))/\∃ m,w'=w.drewN m:=by
 have hn:=h.1;obtain⟨l,hr,hc,hs,hx,hf,hg⟩:=h.cells;clear hr hs hx hf hg;obtain⟨R,hR⟩:=nm (Lh L goal);rw[<- hR];by_cases hi:0<=goal/\goal<L.length
 . obtain⟨k,rfl⟩:∃ k:Nat,goal=k:=⟨goal.toNat,by omega⟩
   rw[Lh,AC hi,B5] at hR;obtain⟨F,hF⟩:=nm (Ff L k);rw[<- hF] at hR;by_cases hp:0<=F
   . rw[AC hp] at hR
     have HR:=vJ hR;have HF:=vJ hF;clear hR hF;go_enter Tryz.func236,Tryz.ntmps236
     go_wp2_with (first
      |(go_at_call 257;refine(Qg p _ k _ hc (by omega) hi.2).mono ?_;rintro e w' ⟨rfl,rfl⟩)
      |(go_at_call 258;refine(Mq h k (by omega) F HF.out).mono ?_;rintro e w' ⟨rfl,m2,rfl⟩))
     go_ret;exact⟨JN HR.out.symm,m2,rfl⟩
   . rw[AE hp] at hR
     have HR:=vJ hR;have HF:=vJ hF;clear hR hF;go_enter Tryz.func236,Tryz.ntmps236
     go_wp2_with (first
      |(go_at_call 257;refine(Qg p _ k _ hc (by omega) hi.2).mono ?_;rintro e w' ⟨rfl,rfl⟩)
      |(go_at_call 258;(with_reducible refine(Mq h k (by omega) F HF.out).mono ?_);rintro e w' ⟨rfl,m2,rfl⟩)
      |(go_at_call 258;(with_reducible refine(QY h _ R HR.out).mono ?_);rintro e w' ⟨rfl,m3,rfl⟩))
     go_ret;exact⟨rfl,_,rfl⟩
 . rw[Lh,AE hi] at hR
   have HR:=vJ hR;clear hR;go_enter Tryz.func236,Tryz.ntmps236
   go_wp2_with (first
    |(go_at_call 257;refine(Ru p _ goal _ hc hi).mono ?_;rintro e w' ⟨rfl,rfl⟩)
    |(go_at_call 258;(with_reducible refine(Va h R HR.out).mono ?_);rintro e w' ⟨rfl,m3,rfl⟩))
   go_ret;exact⟨rfl,_,rfl⟩
theorem Q5{w:Z}{p g:Nat}{L:List Bool}(h:BRow w p g L):
 S X 235 #[Am (U ⟨p,0,T⟩)] w fun e w'=>e=I (Y V (Eo L))/\∃ m,w'=w.drewN m:=by
 have hn:=h.1;go_enter Tryz.func235,Tryz.ntmps235;go_wp2_with (go_at_call 255;refine(VC h).mono ?_;rintro e w' ⟨rfl,rfl⟩)
 go_loopw [3,7] (fun c i wr=>∃ k:Nat,k<=L.length/\i=Y V k/\c=Y V (Eo (L.take k))/\∃ m,wr=w.drewN m)
  (fun _ i _=>L.length-(intOf i).toNat)
 case atStart=>exact⟨0,by omega,rfl,rfl,0,rfl⟩
 case round=>
  obtain⟨k,hk,rfl,rfl,m,rfl⟩:=hrel;have Mi:=Lp L k;obtain⟨C,hC⟩:=nm (Eo (L.take k));rw[<- hC] at Mi |-
  by_cases hlt:k<L.length
  . have JF:=Pz hlt
    cases hb:L.getD k E
    . rw[hb,AE (by decide),<- hC] at JF
      have HB:=vJ hb;have HS:=vJ JF;clear hb JF hC;go_wp2_with (go_at_call 256;refine(Nl h k _ E HB.out).mono ?_;rintro e w' ⟨rfl,m2,rfl⟩)
      go_roundw
      case rel=>exact⟨k+1,by omega,by go_num,by rw[HS.out];go_num,m2,rfl⟩
      case measure=>simp[intOf];omega
    . rw[hb,AC rfl,<- hC] at JF
      have HB:=vJ hb;have HS:=vJ JF;clear hb JF hC;go_wp2_with (go_at_call 256;refine(Nl h k _ A HB.out).mono ?_;rintro e w' ⟨rfl,m2,rfl⟩)
      go_roundw
      case rel=>exact⟨k+1,by omega,by go_num,by rw[HS.out];go_num,m2,rfl⟩
      case measure=>simp[intOf];omega
  . have HC:=vJ hC
    clear hC;go_wp2_with fail
    go_ret;exact⟨JN (by rw[HC.out,AV (by omega)]),m,rfl⟩
end
section
open Go.RowKit
theorem b8{k:IntKind}{a b:Int}(h:a=b):Ending.returned (Y k a)=I (Y k b):=by rw[h]
def CY(b:Int):Bool:=decide (1<=b/\b<=768/\b%64=0)
def Na(b:Int):Int:=if CY b=A then b / 64 else 0
def II(n:Int):Int:=if n<0 then -1 else n / 64
def Ix(g:Int):Int:=if 0<=g/\g<12 then (if g=0 then 1 else g*64) else -1
def RT(g:Int):Int:=if 0<=g/\g<12 then Ix g+1 else -1
def CJ(n:Int):Bool:=decide ((0<=n/\n<43)\/n=63\/(64<=n/\n<768/\n%64<2))
theorem UX{b:Int}(h:CY b=A):∃ k:Nat,1<=k/\k<=12/\b=64*(k:Int):=by
 have:=A7 h;exact⟨(b / 64).toNat,by omega,by omega,by omega⟩
theorem Ux(k:Nat)(h1:1<=k)(h2:k<=12):CY (64*(k:Int))=A:=AF (by omega)
def Kg:Nat->Nat
 |0=>0
 |n+1=>if CJ (n:Int)=A then Kg n else Kg n+1
def gh:Nat->Nat
 |0=>0
 |n+1=>if CJ (n:Int)=A then gh n+1 else gh n
theorem nA(n:Nat):Kg n+gh n=n:=by
 induction n with
 |zero=>rfl
 |succ n ih=>unfold Kg gh;by_cases h:CJ (n:Int)=A <;> simp only[h,AC,if_false,Bool.false_eq_true] <;> omega
theorem ZE:∀ n:Nat,n<=43->Kg n=0:=by
 intro n;induction n with
 |zero=>intro _;rfl
 |succ n ih=>intro h;unfold Kg;rw[AC (by unfold CJ;exact AF (by omega)),ih (by omega)]
theorem Wu:∀ n:Nat,43<=n->n<=63->Kg n=n-43:=by
 intro n;induction n with
 |zero=>intro h;omega
 |succ n ih=>
  intro h1 h2;by_cases e:n=42
  . subst e;rw[ZE 43 (by omega)]
  . unfold Kg;rw[AE (by unfold CJ;simp only[Bd];omega),ih (by omega) (by omega)];omega
theorem nD:Kg 64=20:=by
 unfold Kg;rw[AC (by decide),Wu 63 (by omega) (by omega)]
theorem oC(k:Nat)(h1:1<=k)(h2:k<12)(c:Nat)(hc:Kg (64*k)=c):∀ j:Nat,j<=64->Kg (64*k+j)=c+(j-2):=by
 intro j;induction j with
 |zero=>intro _;simpa using hc
 |succ j ih=>
  intro h;show Kg (64*k+j+1)=_
  by_cases hj:j<2
  . unfold Kg;rw[AC (by unfold CJ;exact AF (by omega)),ih (by omega)];omega
  . unfold Kg;rw[AE (by unfold CJ;simp only[Bd];omega),ih (by omega)];omega
theorem Wr:∀ k:Nat,1<=k->k<=12->Kg (64*k)+42=62*k:=by
 intro k;induction k with
 |zero=>intro h;omega
 |succ k ih=>
  intro h1 h2;by_cases e:k=0
  . subst e;rw[show 64*(0+1)=64 from rfl,nD]
  . have:=ih (by omega) (by omega)
    rw[show 64*(k+1)=64*k+64 by omega,oC k (by omega) (by omega) _ rfl 64 (by omega)];omega
end
section
open Go.RowKit BM
def GF(i a:Int):Bool:=
 if i=0\/i=65535 then decide (a=0) else if i=65534 then decide (a<6) else decide (i<48) && (decide (a<138) || decide (a=65535))
def OwB(O:List (Int × Int)):Prop:=∀ j,(0<=(O.getD j (0,0)).1/\(O.getD j (0,0)).1<=65535)/\(0<=(O.getD j (0,0)).2/\(O.getD j (0,0)).2<=65535)
def OU(O:List (Int × Int))(j:Nat):Bool:=GF (O.getD j (0,0)).1 (O.getD j (0,0)).2
def JW(O:List (Int × Int)):Nat->Bool
 |0=>A
 |k+1=>JW O k && OU O k
def F5(O:List (Int × Int)):Bool:=decide (O.length=64) && JW O O.length
theorem Nh(O:List (Int × Int))(k:Nat):JW O k=A ↔ ∀ j,j<k->OU O j=A:=by
 induction k with
 |zero=>exact⟨fun _ j h=>by omega,fun _=>rfl⟩
 |succ k ih=>
  rw[JW,AY,ih];constructor
  . rintro⟨h1,h2⟩ j hj
    by_cases e:j=k
    . rw[e];exact h2
    . exact h1 j (by omega)
  . exact fun h=>⟨fun j hj=>h j (by omega),h k (by omega)⟩
theorem br{O:List (Int × Int)}{k n:Nat}(h:OU O k=E)(hk:k<n):JW O n=E:=by
 cases hb:JW O n
 . rfl
 . have:=(Nh O n).1 hb k hk
   rw[h] at this;cases this
def EG(O:List (Int × Int)):Nat->List Int
 |0=>[]
 |k+1=>EG O k ++ BN (O.getD k (0,0)).1 2 ++ BN (O.getD k (0,0)).2 2
theorem Fz(O:List (Int × Int))(k:Nat):(EG O k).length=4*k:=by
 induction k with
 |zero=>rfl
 |succ k ih=>rw[EG,Ax,Ax,ih,Bc,Bc];omega
def D3(O:List (Int × Int)):List Int:=EG O O.length
def VX(l:List Int)(j:Nat):Int × Int:=(Cc l (4*j) 2,Cc l (4*j+2) 2)
def Nn(l:List Int)(k:Nat):List (Int × Int):=(Co k).map (VX l)
theorem Gb(l:List Int)(k:Nat):(Nn l k).length=k:=by simp[Nn]
theorem de(l:List Int)(k j:Nat)(h:j<k):(Nn l k).getD j (0,0)=VX l j:=by
 simp[Nn,h]
theorem Nb{l:List Int}(h:∀ x∈l,0<=x/\x<=255)(a:Nat):0<=Cc l a 2/\Cc l a 2<=65535:=by
 have:=D4 h a 2;have e:(256:Int) ^ 2=65536:=rfl;omega
theorem Ku{O:List (Int × Int)}(h:∀ j,j<O.length->(0<=(O.getD j (0,0)).1/\(O.getD j (0,0)).1<=65535)/\(0<=(O.getD j (0,0)).2/\(O.getD j (0,0)).2<=65535)):OwB O:=fun j=>by
 by_cases hj:j<O.length
 . exact h j hj
 . rw[An,A5 (by omega)];decide
theorem lD{l:List Int}(h:∀ x∈l,0<=x/\x<=255)(k:Nat):OwB (Nn l k):=Ku fun j hj=>by
 rw[Gb] at hj;rw[de l k j hj];exact⟨Nb h _,Nb h _⟩
def E8(O:List (Int × Int))(j:Nat):Bool:=decide ((O.getD j (0,0)).1≠0)
def CQ(O:List (Int × Int))(k:Nat):List Bool:=(Co k).map (E8 O)
theorem EZ(O:List (Int × Int))(k:Nat):(CQ O k).length=k:=by simp[CQ]
theorem Zu(O:List (Int × Int))(k j:Nat)(h:j<k):(CQ O k).getD j E=E8 O j:=by
 simp[CQ,h]
theorem Rq(O:List (Int × Int))(k:Nat):CQ O (k+1)=CQ O k ++ [E8 O k]:=by simp[CQ,Hi]
def ME(g:Int)(j:Nat):Int × Int:=(if CJ (64*g+(j:Int))=A then 65535 else 0,0)
def F4(g:Int)(k:Nat):List (Int × Int):=(Co k).map (ME g)
theorem I4(g:Int)(k:Nat):(F4 g k).length=k:=by simp[F4]
theorem V9(g:Int)(k:Nat):F4 g (k+1)=F4 g k ++ [ME g k]:=by simp[F4,Hi]
def Q8(b:Bool):Int:=if b then 1 else 0
def QG(L:List Bool)(j:Nat):Int:=Q8 (L.getD (8*j) E)+2*Q8 (L.getD (8*j+1) E)+4*Q8 (L.getD (8*j+2) E)+8*Q8 (L.getD (8*j+3) E)+
 16*Q8 (L.getD (8*j+4) E)+32*Q8 (L.getD (8*j+5) E)+64*Q8 (L.getD (8*j+6) E)+128*Q8 (L.getD (8*j+7) E)
def I7(L:List Bool):List Int:=(Co ((L.length+7) / 8)).map (QG L)
theorem Eu(b:Bool):0<=Q8 b/\Q8 b<=1:=by cases b <;> decide
theorem G9(b:Bool)(x:Int)(h:x=Q8 b):decide (x=1)=b:=by subst h;cases b <;> rfl
theorem dV(v0 v1 v2 v3 v4 v5 v6 v7:Int)(h0:0<=v0/\v0<=1)(h1:0<=v1/\v1<=1)(h2:0<=v2/\v2<=1)(h3:0<=v3/\v3<=1)(h4:0<=v4/\v4<=1)(h5:0<=v5/\v5<=1)(h6:0<=v6/\v6<=1)(h7:0<=v7/\v7<=1)(x:Int)
 (hx:x=v0+2*v1+4*v2+8*v3+16*v4+32*v5+64*v6+128*v7):
 x / 2 ^ 0%2=v0/\x / 2 ^ 1%2=v1/\x / 2 ^ 2%2=v2/\x / 2 ^ 3%2=v3/\x / 2 ^ 4%2=v4/\x / 2 ^ 5%2=v5/\x / 2 ^ 6%2=v6/\x / 2 ^ 7%2=v7:=by
 refine⟨?_,?_,?_,?_,?_,?_,?_,?_⟩ <;> omega
theorem dN(L:List Bool)(j k:Nat)(hk:k<8):Eg (QG L j) k=L.getD (8*j+k) E:=by
 obtain⟨e0,e1,e2,e3,e4,e5,e6,e7⟩:=dV _ _ _ _ _ _ _ _ (Eu (L.getD (8*j) E)) (Eu (L.getD (8*j+1) E)) (Eu (L.getD (8*j+2) E)) (Eu (L.getD (8*j+3) E))
  (Eu (L.getD (8*j+4) E)) (Eu (L.getD (8*j+5) E)) (Eu (L.getD (8*j+6) E)) (Eu (L.getD (8*j+7) E)) (QG L j) rfl
 have e:k=0\/k=1\/k=2\/k=3\/k=4\/k=5\/k=6\/k=7:=by omega
 unfold Eg;rcases e with rfl|rfl|rfl|rfl|rfl|rfl|rfl|rfl
 . exact G9 _ _ e0
 . exact G9 _ _ e1
 . exact G9 _ _ e2
 . exact G9 _ _ e3
 . exact G9 _ _ e4
 . exact G9 _ _ e5
 . exact G9 _ _ e6
 . exact G9 _ _ e7
theorem iJ(L:List Bool)(j:Nat):0<=QG L j/\QG L j<=255:=by
 have h0:=Eu (L.getD (8*j) E);have h1:=Eu (L.getD (8*j+1) E);have h2:=Eu (L.getD (8*j+2) E);have h3:=Eu (L.getD (8*j+3) E);have h4:=Eu (L.getD (8*j+4) E);have h5:=Eu (L.getD (8*j+5) E);have h6:=Eu (L.getD (8*j+6) E);have h7:=Eu (L.getD (8*j+7) E);unfold QG;omega
theorem E9(L:List Bool):(I7 L).length=(L.length+7) / 8:=by simp[I7]
theorem Px(L:List Bool)(j:Nat):(I7 L).getD j 0=if j<(L.length+7) / 8 then QG L j else 0:=by
 unfold I7;rw[An,List.getElem?_map];by_cases h:j<(L.length+7) / 8
 . rw[AC h,List.getElem?_range h];rfl
 . rw[AE h,A5 (by simp;omega)];rfl
theorem RA(L:List Bool):Rep (I7 L) L:=by
 refine⟨E9 L,fun j=>?_,fun j=>?_⟩
 . rw[Px];split
   . exact iJ L j
   . decide
 . rw[Px]
   by_cases h:j / 8<(L.length+7) / 8
   . rw[AC h,dN L _ _ (Gl _ (by omega))]
     congr 1;omega
   . rw[AE h,RW,An,A5 (by omega)];rfl
def R6(g:Int)(L:List Bool):List Int:=[100,101,115,99] ++ BN g 2 ++ BN (Eo L) 2 ++ I7 L
def GI(g:Int)(L:List Bool):List Int:=BU (R6 g L)
theorem N7(g:Int)(L:List Bool)(h:L.length=64):(R6 g L).length=16:=by
 simp[R6,Bc,E9,h]
end
section
open Go.RowKit
theorem GS(b:Int)(hm:b<=9223372036854775807)(w:Z):S X 208 #[Y V b] w fun e w'=>e=I (A1 (CY b))/\w=w':=by
 by_cases h1:0<b
 . by_cases h2:b%64=0
   . by_cases h3:b / 64<=12
     . have hr:CY b=A:=AF (by omega)
       rw[hr];have h0:0<=b:=(by omega);have h2':(b%64==0)=A:=(by simp[h2]);clear hr h2;go_enter Tryz.func208,Tryz.ntmps208;go_wp2;go_ret;exact⟨rfl,rfl⟩
     . have hr:CY b=E:=AG (by omega)
       rw[hr];have h0:0<=b:=(by omega);have h2':(b%64==0)=A:=(by simp[h2]);clear hr h2;go_enter Tryz.func208,Tryz.ntmps208;go_wp2;go_ret;exact⟨rfl,rfl⟩
   . have hr:CY b=E:=AG (by omega)
     rw[hr];have h0:0<=b:=(by omega);have h2':(b%64==0)=E:=(by simp[h2]);clear hr;go_enter Tryz.func208,Tryz.ntmps208;go_wp2;go_ret;exact⟨rfl,rfl⟩
 . have hr:CY b=E:=AG (by omega)
   rw[hr];clear hr;go_enter Tryz.func208,Tryz.ntmps208;go_wp2;go_ret;exact⟨rfl,rfl⟩
theorem G7(k:Nat)(h1:1<=k)(h2:k<=12)(w:Z):S X 208 #[Y V (64*(k:Int))] w fun e w'=>e=I (A1 A)/\w=w':=by
 have:=GS (64*(k:Int)) (by omega) w;rw[Ux k h1 h2] at this;exact this
theorem MB(b:Int)(hm:b<=9223372036854775807)(h:CY b=E)(w:Z):S X 208 #[Y V b] w fun e w'=>e=I (A1 E)/\w=w':=by
 have:=GS b hm w;rw[h] at this;exact this
theorem Kw(k:Nat)(h1:1<=k)(h2:k<=12)(w:Z):S X 233 #[Y V (64*(k:Int))] w fun e w'=>e=I (Y V k)/\w=w':=by
 go_enter Tryz.func233,Tryz.ntmps233;go_wp2_with (go_at_call 208;refine(G7 k h1 h2 _).mono ?_;rintro e w' ⟨rfl,rfl⟩)
 go_ret;exact⟨b8 (by omega),rfl⟩
theorem WK(b:Int)(hm:b<=9223372036854775807)(w:Z):S X 233 #[Y V b] w fun e w'=>e=I (Y V (Na b))/\w=w':=by
 cases hb:CY b
 . have hr:Na b=0:=by unfold Na;rw[AE (by simp[hb])]
   rw[hr];have HB:=vJ hb;clear hb hr;go_enter Tryz.func233,Tryz.ntmps233;go_wp2_with (go_at_call 208;refine(MB b hm HB.out _).mono ?_;rintro e w' ⟨rfl,rfl⟩)
   go_ret;exact⟨rfl,rfl⟩
 . obtain⟨k,h1,h2,rfl⟩:=UX hb
   have hr:Na (64*(k:Int))=k:=(by unfold Na;rw[AC hb];omega);rw[hr];exact Kw k h1 h2 w
theorem JY(n:Int)(hm:n<=9223372036854775807)(w:Z):S X 219 #[Y V n] w fun e w'=>e=I (Y V (II n))/\w=w':=by
 by_cases h:n<0
 . have hr:II n= -1:=AC h
   rw[hr];clear hr;go_enter Tryz.func219,Tryz.ntmps219;go_wp2;go_ret;exact⟨rfl,rfl⟩
 . have hr:II n=n / 64:=AE h
   rw[hr];clear hr;have h0:0<=n:=(by omega);go_enter Tryz.func219,Tryz.ntmps219;go_wp2;go_ret;exact⟨rfl,rfl⟩
theorem DR(g:Int)(h1:0<=g)(h2:g<12)(w:Z):S X 238 #[Y V g] w fun e w'=>e=I (A1 A)/\w=w':=by
 go_enter Tryz.func238,Tryz.ntmps238;go_wp2;go_ret;exact⟨rfl,rfl⟩
theorem J2(g:Int)(h:¬ (0<=g/\g<12))(w:Z):S X 238 #[Y V g] w fun e w'=>e=I (A1 E)/\w=w':=by
 by_cases h0:0<=g
 . have h1:¬ g<12:=fun h2=>h ⟨h0,h2⟩
   go_enter Tryz.func238,Tryz.ntmps238;go_wp2;go_ret;exact⟨rfl,rfl⟩
 . go_enter Tryz.func238,Tryz.ntmps238
   go_wp2;go_ret;exact⟨rfl,rfl⟩
theorem Ma(g:Int)(w:Z):S X 239 #[Y V g] w fun e w'=>e=I (Y V (Ix g))/\w=w':=by
 by_cases h:0<=g/\g<12
 . obtain⟨h1,h2⟩:=h
   by_cases h3:g=0
   . subst h3
     rw[show Ix 0=1 from rfl];go_enter Tryz.func239,Tryz.ntmps239;go_wp2_with (go_at_call 238;refine(DR 0 (by decide) (by decide) _).mono ?_;rintro e w' ⟨rfl,rfl⟩)
     go_ret;exact⟨rfl,rfl⟩
   . have hr:Ix g=g*64:=by unfold Ix;rw[AC ⟨h1,h2⟩,AE h3]
     rw[hr];have h3':(g==0)=E:=(by simp[h3]);clear hr h3;go_enter Tryz.func239,Tryz.ntmps239;go_wp2_with (go_at_call 238;refine(DR g h1 h2 _).mono ?_;rintro e w' ⟨rfl,rfl⟩)
     go_ret;exact⟨rfl,rfl⟩
 . have hr:Ix g= -1:=AE h
   rw[hr];have H:=vJ h;clear hr h;go_enter Tryz.func239,Tryz.ntmps239;go_wp2_with (go_at_call 238;refine(J2 g H.out _).mono ?_;rintro e w' ⟨rfl,rfl⟩)
   go_ret;exact⟨rfl,rfl⟩
theorem ji(g:Int)(h1:0<=g)(h2:g<12):0<=Ix g/\Ix g<=704:=by
 unfold Ix;rw[AC ⟨h1,h2⟩];split <;> omega
theorem Kz(g:Int)(w:Z):S X 240 #[Y V g] w fun e w'=>e=I (Y V (RT g))/\w=w':=by
 by_cases h:0<=g/\g<12
 . have hr:RT g=Ix g+1:=AC h
   rw[hr];obtain⟨h1,h2⟩:=h;obtain⟨d1,d2⟩:=ji g h1 h2;clear hr;go_enter Tryz.func240,Tryz.ntmps240
   go_wp2_with (first
    |(go_at_call 238;refine(DR g h1 h2 _).mono ?_;rintro e w' ⟨rfl,rfl⟩)
    |(go_at_call 239;refine(Ma g _).mono ?_;rintro e w' ⟨rfl,rfl⟩))
   go_ret;exact⟨rfl,rfl⟩
 . have hr:RT g= -1:=AE h
   rw[hr];have H:=vJ h;clear hr h;go_enter Tryz.func240,Tryz.ntmps240;go_wp2_with (go_at_call 238;refine(J2 g H.out _).mono ?_;rintro e w' ⟨rfl,rfl⟩)
   go_ret;exact⟨rfl,rfl⟩
theorem fB(w:Z):S X 242 #[] w fun e w'=>e=I (Y V 63)/\w=w':=by
 go_enter Tryz.func242,Tryz.ntmps242;go_wp2;go_ret;exact⟨rfl,rfl⟩
def jrnB(n:Int):Bool:=decide (3<=n/\n<43)
theorem T8(n:Int)(w:Z):S X 241 #[Y V n] w fun e w'=>e=I (A1 (jrnB n))/\w=w':=by
 by_cases h0:3<=n
 . by_cases h1:n<43
   . rw[show jrnB n=A from AF ⟨h0,h1⟩]
     go_enter Tryz.func241,Tryz.ntmps241;go_wp2;go_ret;exact⟨rfl,rfl⟩
   . rw[show jrnB n=E from AG (by omega)]
     go_enter Tryz.func241,Tryz.ntmps241;go_wp2;go_ret;exact⟨rfl,rfl⟩
 . rw[show jrnB n=E from AG (by omega)]
   go_enter Tryz.func241,Tryz.ntmps241;go_wp2;go_ret;exact⟨rfl,rfl⟩
theorem SU(k:Nat)(h1:1<=k)(h2:k<=12)(w:Z):S X 213 #[Y V (64*(k:Int))] w fun e w'=>e=I (Y V (62*(k:Int)-42))/\w=w':=by
 go_enter Tryz.func213,Tryz.ntmps213
 go_wp2_with (first
  |(go_at_call 208;refine(G7 k h1 h2 _).mono ?_;rintro e w' ⟨rfl,rfl⟩)
  |(go_at_call 233;refine(Kw k h1 h2 _).mono ?_;rintro e w' ⟨rfl,rfl⟩))
 go_ret;exact⟨b8 (by omega),rfl⟩
theorem dw(n:Int)(hm:n<=9223372036854775807)(h:¬ (0<=II n/\II n<12))(w:Z):S X 217 #[Y V n] w fun e w'=>e=I (A1 (CJ n))/\w=w':=by
 have hr:CJ n=E:=by
  unfold CJ;refine AG ?_;unfold II at h;split at h <;> omega
 rw[hr];have H:=vJ h;clear hr h;go_enter Tryz.func217,Tryz.ntmps217
 go_wp2_with (first
  |(go_at_call 219;refine(JY n hm _).mono ?_;rintro e w' ⟨rfl,rfl⟩)
  |(go_at_call 238;refine(J2 _ H.out _).mono ?_;rintro e w' ⟨rfl,rfl⟩))
 go_ret;exact⟨rfl,rfl⟩
theorem qX(n:Int)(h1:0<=II n)(h2:II n<12):CJ n=(((((n==0) || (n==Ix (II n))) || (n==RT (II n))) || jrnB n) || (n==63)):=by
 have hn:0<=n:=by unfold II at h1;split at h1 <;> omega
 have hg:II n=n / 64:=by unfold II;rw[AE (by omega)]
 rw[hg] at h1 h2 |-
 rw[Bool.eq_iff_iff];unfold CJ jrnB RT Ix;have hc:0<=n / 64/\n / 64<12:=⟨h1,h2⟩;simp only[AC hc,Bd,Bool.or_eq_true,beq_iff_eq];by_cases h0:n / 64=0
 . simp only[AC h0];omega
 . simp only[AE h0];omega
theorem Zf(n:Int)(hm:n<=9223372036854775807)(h1:0<=II n)(h2:II n<12)(w:Z):S X 217 #[Y V n] w fun e w'=>e=I (A1 (CJ n))/\w=w':=by
 rw[qX n h1 h2];obtain⟨G,hG⟩:=nm (II n);have HGG:S X 219 #[Y V n] w fun e w'=>e=I (Y V G)/\w=w':=by rw[hG];exact JY n hm w
 rw[<- hG] at h1 h2 |-
 clear hG;obtain⟨D,hD⟩:=nm (Ix G);have HDD:S X 239 #[Y V G] w fun e w'=>e=I (Y V D)/\w=w':=by rw[hD];exact Ma G w
 rw[<- hD];clear hD;obtain⟨O,hO⟩:=nm (RT G);have HOO:S X 240 #[Y V G] w fun e w'=>e=I (Y V O)/\w=w':=by rw[hO];exact Kz G w
 rw[<- hO];clear hO;obtain⟨J,hJ⟩:=nm (jrnB n);have HJJ:S X 241 #[Y V n] w fun e w'=>e=I (A1 J)/\w=w':=by rw[hJ];exact T8 n w
 rw[<- hJ];clear hJ;rcases hb0:(n==0) with _|_
 . rcases hb1:(n==D) with _|_
   . rcases hb2:(n==O) with _|_
     . cases J
       . go_enter Tryz.func217,Tryz.ntmps217
         go_wp2_with (first
          |(go_at_call 219;refine HGG.mono ?_;rintro e w' ⟨rfl,rfl⟩)
          |(go_at_call 238;refine(DR G h1 h2 _).mono ?_;rintro e w' ⟨rfl,rfl⟩)
          |(go_at_call 239;refine HDD.mono ?_;rintro e w' ⟨rfl,rfl⟩)
          |(go_at_call 240;refine HOO.mono ?_;rintro e w' ⟨rfl,rfl⟩)
          |(go_at_call 241;refine HJJ.mono ?_;rintro e w' ⟨rfl,rfl⟩)
          |(go_at_call 242;refine(fB _).mono ?_;rintro e w' ⟨rfl,rfl⟩))
         go_ret;exact⟨by simp,rfl⟩
       . go_enter Tryz.func217,Tryz.ntmps217
         go_wp2_with (first
          |(go_at_call 219;refine HGG.mono ?_;rintro e w' ⟨rfl,rfl⟩)
          |(go_at_call 238;refine(DR G h1 h2 _).mono ?_;rintro e w' ⟨rfl,rfl⟩)
          |(go_at_call 239;refine HDD.mono ?_;rintro e w' ⟨rfl,rfl⟩)
          |(go_at_call 240;refine HOO.mono ?_;rintro e w' ⟨rfl,rfl⟩)
          |(go_at_call 241;refine HJJ.mono ?_;rintro e w' ⟨rfl,rfl⟩))
         go_ret;exact⟨rfl,rfl⟩
     . go_enter Tryz.func217,Tryz.ntmps217
       go_wp2_with (first
        |(go_at_call 219;refine HGG.mono ?_;rintro e w' ⟨rfl,rfl⟩)
        |(go_at_call 238;refine(DR G h1 h2 _).mono ?_;rintro e w' ⟨rfl,rfl⟩)
        |(go_at_call 239;refine HDD.mono ?_;rintro e w' ⟨rfl,rfl⟩)
        |(go_at_call 240;refine HOO.mono ?_;rintro e w' ⟨rfl,rfl⟩))
       go_ret;exact⟨rfl,rfl⟩
   . go_enter Tryz.func217,Tryz.ntmps217
     go_wp2_with (first
      |(go_at_call 219;refine HGG.mono ?_;rintro e w' ⟨rfl,rfl⟩)
      |(go_at_call 238;refine(DR G h1 h2 _).mono ?_;rintro e w' ⟨rfl,rfl⟩)
      |(go_at_call 239;refine HDD.mono ?_;rintro e w' ⟨rfl,rfl⟩))
     go_ret;exact⟨rfl,rfl⟩
 . go_enter Tryz.func217,Tryz.ntmps217
   go_wp2_with (first
    |(go_at_call 219;refine HGG.mono ?_;rintro e w' ⟨rfl,rfl⟩)
    |(go_at_call 238;refine(DR G h1 h2 _).mono ?_;rintro e w' ⟨rfl,rfl⟩))
   go_ret;exact⟨rfl,rfl⟩
theorem YV(n:Int)(hm:n<=9223372036854775807)(w:Z):S X 217 #[Y V n] w fun e w'=>e=I (A1 (CJ n))/\w=w':=by
 by_cases h:0<=II n/\II n<12
 . exact Zf n hm h.1 h.2 w
 . exact dw n hm h w
theorem LW(n:Int)(hm:n<=9223372036854775807)(B:Bool)(h:CJ n=B)(w:Z):S X 217 #[Y V n] w fun e w'=>e=I (A1 B)/\w=w':=by
 rw[<- h];exact YV n hm w
section
variable {α:Type}{f:α->List W}{s:Nat}
theorem CK:∀ {L:List α},(∀ x∈L,(f x).length=s)->(L.flatMap f).length=L.length*s
 |[],_=>by simp
 |x :: L,h=>by
  rw[CD,Ax,CK (fun z hz=>h z (CC _ hz)),h x (by simp),Ch,Nat.succ_mul];omega
theorem Gw:∀ {L:List α},(∀ x∈L,(f x).length=s)->∀ (i:Nat) (hi:i<L.length),((L.flatMap f).drop (i*s)).take s=f L[i]
 |[],_,i,hi=>by simp at hi
 |x :: L,h,0,_=>by
  rw[CD,Nat.zero_mul,CP,CT (by rw[h x (by simp)];exact AB _),<- h x (by simp),B8];rfl
 |x :: L,h,i+1,hi=>by
  have hx:=h x (by simp);rw[CD,show(i+1)*s=(f x).length+i*s by rw[hx,Nat.succ_mul];omega,List.drop_length_add_append];exact Gw (fun z hz=>h z (CC _ hz)) i (by simpa using hi)
theorem G4:∀ {L:List α},(∀ x∈L,(f x).length=s)->∀ (i:Nat) (hi:i<L.length) (y:α),(f y).length=s->splice (L.flatMap f) (i*s) (f y)=(L.set i y).flatMap f
 |[],_,i,hi,_,_=>by simp at hi
 |x :: L,h,0,_,y,hy=>by
  have hx:=h x (by simp);simp only[splice,Nat.zero_mul,List.take_zero,B0,Bm,Av,CD];rw[hy,<- hx,List.drop_left]
 |x :: L,h,i+1,hi,y,hy=>by
  have hx:=h x (by simp);have ih:=G4 (fun z hz=>h z (CC _ hz)) i (by simpa using hi) y hy;rw[Au,CD,CD,<- ih];simp only[splice];rw[show(i+1)*s=(f x).length+i*s by rw[hx,Nat.succ_mul];omega,DT,D6,List.drop_length_add_append,AQ]
end
theorem DH{w:Z}{g o:Nat}{t:TypeId}{vs cur:List W}(hg:w.heap[g]? =U (Ar cur.toArray t (0,0)))(hl:o+vs.length<=cur.length)(h1:∀ v∈vs,v.oneCell'=A):
 w.setCells g o vs=w.setRow g (splice cur o vs).toArray:=by
 have a:=run_storeCells_cells (P:=X) g o vs 0 w
  (fun j hj=>by rw[Az _ _ _ _ _ _ hg];simp;omega)
  (fun j hj=>by simp[Z.frozen?,hg]) h1
 have b:=run_storeCells_at X g o t vs 0 cur.toArray w hg (by simpa using hl) h1;rw[a] at b
 injection b with _ b
 simpa [splice] using b
theorem DX{w:Z}{g o n:Nat}{t:TypeId}{cur:List W}(hg:w.heap[g]? =U (Ar cur.toArray t (0,0)))(hl:o+n<=cur.length):w.there g o n:=fun j hj=>by
 refine⟨by rw[Az _ _ _ _ _ _ hg];simp;omega,by simp[Z.frozen?,hg]⟩
theorem EE{w:Z}{g o:Nat}{t:TypeId}{vs cur:List W}(hg:w.heap[g]? =U (Ar cur.toArray t (0,0)))(h:(cur.drop o).take vs.length=vs):w.rangeAt g o vs:=fun j v hv=>by
 rw[Az _ _ _ _ _ _ hg];have hj:=(Bj.1 hv).1;rw[<- h,AZ,AC hj,Bp] at hv
 simpa using hv
end
section
open Go.RowKit BM
def OwSl(w:Z)(v:W)(O:List (Int × Int)):Prop:=
 OwB O/\((v=Ak T 0 0/\O=[])\/∃ a cap,v=Ak (U a) O.length cap/\∀ j,j<O.length->a.block<w.heap.size/\a.spot=T/\
  w.cell? ⟨a.block,a.off+j*2,T⟩=U (Y .u16 (O.getD j (0,0)).1)/\w.cell? ⟨a.block,a.off+j*2+1,T⟩=U (Y .u16 (O.getD j (0,0)).2))
theorem OwSl.below{w w':Z}{v:W}{O:List (Int × Int)}(h:OwSl w v O)(hb:At w.heap.size w w'):OwSl w' v O:=by
 refine⟨h.1,?_⟩;rcases h.2 with h| ⟨a,cap,hv,hc⟩
 . exact AN h
 . refine Ba ⟨a,cap,hv,fun j hj=>?_⟩
   obtain⟨h1,h2,h3,h4⟩:=hc j hj;exact⟨AH h1 hb.size,h2,by rw[hb.cell (p:=⟨a.block,a.off+j*2,T⟩) h1,h3],by rw[hb.cell (p:=⟨a.block,a.off+j*2+1,T⟩) h1,h4]⟩
theorem OwSl.shape{w:Z}{v:W}{O:List (Int × Int)}(h:OwSl w v O):∃ ao cap,v=Ak ao O.length cap:=by
 rcases h.2 with⟨hv,hk⟩| ⟨a,cap,hv,_⟩
 . exact⟨T,0,by rw[hv,hk];rfl⟩
 . exact⟨U a,cap,hv⟩
theorem OwSl.at{w:Z}{v:W}{O:List (Int × Int)}(h:OwSl w v O)(hO:0<O.length):∃ b off cap,v=Ak (U ⟨b,off,T⟩) O.length cap/\b<w.heap.size/\
 ∀ j,j<O.length->w.cell? ⟨b,off+j*2,T⟩=U (Y .u16 (O.getD j (0,0)).1)/\w.cell? ⟨b,off+j*2+1,T⟩=U (Y .u16 (O.getD j (0,0)).2):=by
 rcases h.2 with⟨_,hk⟩| ⟨⟨b,off,spot⟩,cap,hv,hc⟩
 . rw[hk] at hO;simp at hO
 . obtain⟨h1,h2,_⟩:=hc 0 hO
   obtain rfl:spot=T:=h2;exact⟨b,off,cap,hv,h1,fun j hj=>(hc j hj).2.2⟩
def cO(x:Int × Int):List W:=[Y .u16 x.1,Y .u16 x.2]
def FF(O:List (Int × Int)):List W:=O.flatMap cO
theorem MC:∀ x:Int × Int,(cO x).length=2:=fun _=>rfl
theorem DN(O:List (Int × Int)):(FF O).length=O.length*2:=CK fun x _=>MC x
theorem PC(O P:List (Int × Int)):FF (O ++ P)=FF O ++ FF P:=Eb
theorem Nx(O:List (Int × Int))(j:Nat)(h:j<O.length):(FF O)[j*2]? =U (Y .u16 (O.getD j (0,0)).1)/\(FF O)[j*2+1]? =U (Y .u16 (O.getD j (0,0)).2):=by
 have hg:=Gw (f:=cO) (s:=2) (L:=O) (fun x _=>MC x) j h;have e:O.getD j (0,0)=O[j]:=by simp[h]
 rw[e];have h0:=BH (fun z=>z[0]?) hg;have h1:=BH (fun z=>z[1]?) hg;simp only[AZ,Bp,Nat.add_zero] at h0 h1;rw[AC (by omega)] at h0 h1;exact⟨h0,h1⟩
def OwR(w:Z)(B:Nat)(v:W)(O:List (Int × Int)):Prop:=OwB O/\w.ownsRow B 165 2 v O.length (FF O)
theorem OwR.sl{w:Z}{B:Nat}{v:W}{O:List (Int × Int)}(h:OwR w B v O):OwSl w v O:=by
 refine⟨h.1,?_⟩;rcases h.2.2 with⟨hv,hl⟩| ⟨g,cap,cur,hv,hg,hh,Hn,LD,Hb,ht⟩
 . exact AN ⟨hv,Bb hl⟩
 . refine Ba ⟨_,cap,hv,fun j hj=>⟨(Al.1 hh).1,rfl,?_⟩⟩
   obtain⟨h1,h2⟩:=Nx O j hj;rw[<- ht,AZ] at h1 h2;rw[AC (by omega)] at h1 h2;rw[Bm,Az _ _ _ _ _ _ hh,Az _ _ _ _ _ _ hh];exact⟨by simpa using h1,by simpa using h2⟩
theorem OwR.more{w:Z}{B B':Nat}{v:W}{O:List (Int × Int)}(h:OwR w B v O)(hB:B'<=B):OwR w B' v O:=by
 refine⟨h.1,h.2.1,?_⟩;rcases h.2.2 with h| ⟨g,cap,cur,hv,hg,r⟩
 . exact AN h
 . exact Ba ⟨g,cap,cur,hv,AT hB hg,r⟩
theorem OwR.below{w w':Z}{B:Nat}{v:W}{O:List (Int × Int)}(h:OwR w B v O)(hb:At w.heap.size w w'):OwR w' B v O:=by
 refine⟨h.1,h.2.1,?_⟩;rcases h.2.2 with h| ⟨g,cap,cur,hv,hg,hh,r⟩
 . exact AN h
 . exact Ba ⟨g,cap,cur,hv,hg,by rw[hb.block g (Al.1 hh).1];exact hh,r⟩
theorem OwR.of_row{w:Z}{B g:Nat}{O:List (Int × Int)}(hb:OwB O)(hB:B<=g)(hg:w.heap[g]? =U (Ar (FF O).toArray 165 (0,0)))(hm:O.length<=maxLen):
 OwR w B (Ak (U ⟨g,0,T⟩) O.length O.length) O:=by
 refine⟨hb,DN O,Ba ⟨g,O.length,_,rfl,hB,hg,AB _,hm,by simp[DN],?_⟩⟩;rw[AV (by simp[DN])]
theorem Ue:(X.info? 165).map (fun i=>(i.zero,i.size,i.bytes))=U (U (BD #[Y .u16 0,Y .u16 0]),2,4):=by kernel_rfl
theorem m7(n:Nat):madeCells (W.agg #[Y .u16 0,Y .u16 0]).cells (n*2)=(FF (AD n (0,0))).toArray:=by
 have e:FF (AD n (0,0))=AD (n*2) (Y .u16 0):=by
  apply List.ext_getElem?;intro i;by_cases h:i<n*2
  . have h2:i / 2<(AD n ((0:Int),(0:Int))).length:=by simp;omega
    have hz:(AD n ((0:Int),(0:Int))).getD (i / 2) (0,0)=(0,0):=by
     rw[An,BF];split <;> rfl
    obtain⟨h3,h4⟩:=Nx _ _ h2;rw[hz] at h3 h4;rw[BF,AC h];rcases FD i with e|e
    . rw[show i=i / 2*2 by omega];exact h3
    . rw[show i=i / 2*2+1 by omega];exact h4
  . rw[A5 (by rw[DN];simp;omega),A5 (by simp;omega)]
 rw[e];apply Array.ext
 . simp[size_madeCells]
 . intro i h1 h2
   simp only[madeCells,W.cells,Array.getElem_map,Array.getElem_range];simp;have:i%2=0\/i%2=1:=(by omega);rcases this with e|e <;> rw[e] <;> rfl
theorem QQ(w:Z){ops:Array BS}{rest:List BS}{o:BS}{a:Act}{Q:Exit->Act->Z->Prop}
 (hg:o.guard=T) (l c:Operand) (Mr:o.op=Op.makeSlice 106 l c) (C:Int) (n:Nat) (hl:a.eval l=Y V C) (hc:a.eval c=Y V C) (hC:C=n) (hn:n<=1000000)
 (hK:Cn X ops Q rest (a.put o.dst (Ak (U ⟨w.heap.size,0,T⟩) n n)) (w.alloc (Ar (FF (AD n (0,0))).toArray 165))):
 Cn X ops Q (o :: rest) a w:=by
 refine CM hg fun K hK'=>?_
 obtain⟨i,h2,h3,h4,h5⟩:=By Ue;subst hC;have DY:=run_make (P:=X) w 106 165 i (BD #[Y .u16 0,Y .u16 0]) Tryz.underlying106 h2 h3 V V n n (by omega) (by omega) (by rw[h5];omega) (by omega);unfold BS.wp;simp only[B5,h4,m7] at DY;simp[execOp,Mr,hl,hc,DY,Result.andThen];exact hK' _ _ hK
theorem PP{ops:Array BS}{rest:List BS}{op:BS}{a:Act}{w:Z}{Q:Exit->Act->Z->Prop}(Dn:op.guard=T)(x y:Operand)(ho:op.op=.store 165 x y)
 (g k:Nat) (O:List (Int × Int)) (i j:Int) (hx:a.eval x=Am (U ⟨g,k*2,T⟩)) (hy:a.eval y=BD #[Y .u16 i,Y .u16 j])
 (hg:w.heap[g]? =U (Ar (FF O).toArray 165 (0,0))) (hk:k<O.length)
 (h:∀ w',Wrote w w' g->w'.heap[g]? =U (Ar (FF (O.set k (i,j))).toArray 165 (0,0))->Cn X ops Q rest (a.put op.dst undef) w'):Cn X ops Q (op :: rest) a w:=by
 have hs:(X.info? 165).map (·.size)=U 2:=by kernel_rfl
 have hl:k*2+(cO (i,j)).length<=(FF O).length:=by rw[DN,MC];omega
 have h1:∀ v∈cO (i,j),v.oneCell'=A:=fun v hv=>by simp[cO] at hv;rcases hv with rfl|rfl <;> rfl
 refine wpList_store_mid Dn 165 x y ho g (k*2) #[Y .u16 i,Y .u16 j] hx hy (DX hg hl) (by rw[hs];rfl) (Dv (cs:=cO (i,j)) h1) ?_;have e:=DH hg hl h1;rw[show(#[Y .u16 i,Y .u16 j]:Array W).toList=cO (i,j) from rfl,e];refine h _ (Wrote.setRow _ _ _) ?_;rw[Cr _ _ _ _ _ _ hg,FF,G4 (f:=cO) (s:=2) (fun x _=>MC x) k hk (i,j) (MC _)];rfl
theorem JA(w1:Z)(i j:Int)(hi:0<=i/\i<=65535)(hj:0<=j/\j<=65535){ops:Array BS}{rest:List BS}{o:BS}{a:Act}{Q:Exit->Act->Z->Prop}(Dn:o.guard=T)(s y:Operand)
 (ho:o.op=.call { callee:=.builtin .append,args:=#[s,y],argTypes:=#[106,106] })
 (B:Nat) (v:W) (O:List (Int × Int)) (hs:a.eval s=v) (hown:OwR w1 B v O) (hO:O.length<=1000000) (hy:a.eval y=Ak (U ⟨w1.heap.size,0,T⟩) 1 1) (hB:B<=w1.heap.size)
 (h:∀ v' w',OwR w' B v' (O ++ [(i,j)])->At B w1 w'->Cn X ops Q rest (a.put o.dst v') w'):Cn X ops Q (o :: rest) a (w1.alloc (Ar #[Y .u16 i,Y .u16 j] 165)):=by
 obtain⟨t,h2,h3,h4,h5⟩:=By Ue;have hbel:At w1.heap.size w1 (w1.alloc (Ar #[Y .u16 i,Y .u16 j] 165)):=Ay _ _;have MZ:(w1.alloc (Ar #[Y .u16 i,Y .u16 j] 165)).heap[w1.heap.size]? =U (Ar #[Y .u16 i,Y .u16 j] 165 (0,0)):=Aw w1 _;have hf:=hown.below hbel;refine Mh _ Dn s y 106 ho B 165 t _ 2 4 Tryz.underlying106 h2 h3 h4 h5 rfl (by decide) v O.length _ hs hf.2 ⟨w1.heap.size,0,T⟩ 1 1 [Y .u16 i,Y .u16 j] hy rfl ?_ ?_ (by simp only[maxLen];omega) (by omega) (by simp;omega) fun v' w' h6 h7 _=>?_
 . intro m u hm
   have hm2:m<2:=by simpa using (Bj.1 hm).1
   rw[Cb,Bm,Az _ _ _ _ _ _ MZ,<- hm];have:m=0\/m=1:=(by omega);rcases this with rfl|rfl <;> rfl
 . intro u hu
   simp at hu;rcases hu with rfl|rfl <;> rfl
 . refine h v' w' ⟨Ku fun m hm=>?_,?_⟩ ((hbel.mono hB).trans ((AM _ _).grown h7 (by simp;omega) fun k hk=>(Ck hf.2 k hk).1))
   . by_cases e:m<O.length
     . have:=hown.1 m
       rw[An,BT e,<- An];exact this
     . have e2:m=O.length:=by simp at hm;omega
       subst e2;rw[An,BG (AB _)];simpa using ⟨hi,hj⟩
   . rw[Ax,PC];exact h6
theorem QR(g:Int)(h1:0<=g)(h2:g<12)(w:Z):S X 265 #[Y V g] w fun e w'=>e=I (A1 A)/\w=w':=by
 go_enter Tryz.func265,Tryz.ntmps265;go_wp2;go_ret;exact⟨rfl,rfl⟩
theorem X7(i a:Int)(hi0:0<=i)(hi:i<=65535)(ha0:0<=a)(ha:a<=65535)(w:Z):
 S X 211 #[BD #[Y .u16 i,Y .u16 a]] w fun e w'=>e=I (A1 (GF i a))/\At w.heap.size w w':=by
 have hob:=Ay w (Ar #[Y .u16 i,Y .u16 a] 165);obtain⟨B,hB⟩:=nm (GF i a);rw[<- hB];unfold GF at hB;by_cases h0:i=0
 . rw[AC (AN h0)] at hB
   subst h0;cases hd:decide (a=0)
   all_goals
    rw[hd] at hB;have HB:=vJ hB;have tA:(a==0)=_:=hd;clear hB hd;go_enter Tryz.func211,Tryz.ntmps211;go_wp2;go_ret;exact⟨by rw[HB.out];rfl,hob⟩
 . have e0:(i==0)=E:=by simpa using h0
   by_cases h1:i=65535
   . rw[AC (Ba h1)] at hB
     subst h1;cases hd:decide (a=0)
     all_goals
      rw[hd] at hB;have HB:=vJ hB;have tA:(a==0)=_:=hd;clear hB hd h0;go_enter Tryz.func211,Tryz.ntmps211;go_wp2;go_ret;exact⟨by rw[HB.out];rfl,hob⟩
   . rw[AE (by omega)] at hB
     have e1:(i==65535)=E:=by simpa using h1
     by_cases h2:i=65534
     . rw[AC h2] at hB
       subst h2;cases hd:decide (a<6)
       all_goals
        rw[hd] at hB;have HB:=vJ hB;clear hB h0 h1;go_enter Tryz.func211,Tryz.ntmps211;go_wp2;go_ret;exact⟨by rw[HB.out];rfl,hob⟩
     . rw[AE h2] at hB
       have e2:(i==65534)=E:=by simpa using h2
       clear h0 h1 h2;by_cases h3:i<48
       . by_cases h4:a<138
         . have HB:Hid (B=A):=vJ (by rw[hB];simp[h3,h4])
           clear hB;go_enter Tryz.func211,Tryz.ntmps211;go_wp2;go_ret;exact⟨by rw[HB.out];rfl,hob⟩
         . have tA:(a==65535)=B:=by rw[hB,AF h3,AG h4];rfl
           have hb2:B=A\/B=E:=by cases B <;> simp
           clear hB;rcases hb2 with rfl|rfl
           all_goals
            go_enter Tryz.func211,Tryz.ntmps211;go_wp2;go_ret;exact⟨rfl,hob⟩
       . have HB:Hid (B=E):=vJ (by rw[hB];simp[h3])
         clear hB;go_enter Tryz.func211,Tryz.ntmps211;go_wp2;go_ret;exact⟨by rw[HB.out];rfl,hob⟩
theorem H9(i a:Int)(hi:0<=i/\i<=65535)(ha:0<=a/\a<=65535)(B:Bool)(h:GF i a=B)(w:Z):
 S X 211 #[BD #[Y .u16 i,Y .u16 a]] w fun e w'=>e=I (A1 B)/\At w.heap.size w w':=by
 rw[<- h];exact X7 i a hi.1 hi.2 ha.1 ha.2 w
theorem dz{w:Z}(ao:Option Addr)(len cap:Nat)(h:len≠64):S X 259 #[Ak ao len cap] w fun e w'=>e=I (A1 E)/\w=w':=by
 have hne:((len:Int) != 64)=A:=by simp;omega
 go_enter Tryz.func259,Tryz.ntmps259;go_wp2;go_ret;exact⟨rfl,rfl⟩
theorem jD{w:Z}{b off cap:Nat}{O:List (Int × Int)}(hO:O.length=64)(hB:OwB O)(hb:b<w.heap.size)
 (hc:∀ j,j<O.length->w.cell? ⟨b,off+j*2,T⟩=U (Y .u16 (O.getD j (0,0)).1)/\w.cell? ⟨b,off+j*2+1,T⟩=U (Y .u16 (O.getD j (0,0)).2)):
 S X 259 #[Ak (U ⟨b,off,T⟩) 64 cap] w fun e w'=>e=I (A1 (F5 O))/\At w.heap.size w w':=by
 obtain⟨R,hR⟩:=nm (F5 O);rw[<- hR];have HC:=vJ hc;have HO:=vJ hO;have HBB:=vJ hB;have hRR:R=JW O 64:=by rw[hR,F5,hO];rfl
 have HR:=vJ hRR;clear hc hO hB hR hRR;go_enter Tryz.func259,Tryz.ntmps259;go_wp2;go_loopw [10] (fun i wr=>∃ k:Nat,k<=64/\i=Y V k/\Hid (JW O k=A)/\At w.heap.size w wr) (fun i _=>64-(intOf i).toNat)
 case atStart=>exact⟨0,by omega,rfl,rfl,AM _ _⟩
 case round=>
  obtain⟨k,hk,rfl,HK,hbr⟩:=hrel;by_cases hlt:k<64
  . have hck:=HC.out k (by rw[HO.out];exact hlt)
    have hbd:=HBB.out k;have hj:OU O k=GF (O.getD k (0,0)).1 (O.getD k (0,0)).2:=rfl;obtain⟨x,hx⟩:=nm ((O.getD k (0,0)).1);obtain⟨y,hy⟩:=nm ((O.getD k (0,0)).2);rw[<- hx,<- hy] at hck hbd hj;have c1:=(hbr.cell (p:=⟨b,off+k*2,T⟩) hb).trans hck.1;have c2:=(hbr.cell (p:=⟨b,off+k*2+1,T⟩) hb).trans hck.2;have ek:(k:Int)<64:=(by omega);clear hx hy hck;cases hf:GF x y
    . have HF:=vJ hf
      rw[hf] at hj;have HJ:=vJ hj;clear hf hj;go_wp2_with (go_at_call 211;refine(H9 x y hbd.1 hbd.2 E HF.out _).mono ?_;rintro e w2 ⟨rfl,hb2⟩)
      go_ret;exact⟨CV (by rw[HR.out,br HJ.out hlt]),(hbr.trans ((Ay _ _).mono hbr.size)).trans (hb2.mono (by have:=hbr.size;simp;omega))⟩
    . have HF:=vJ hf
      rw[hf] at hj;have HJ:=vJ hj;clear hf hj;go_wp2_with (go_at_call 211;refine(H9 x y hbd.1 hbd.2 A HF.out _).mono ?_;rintro e w2 ⟨rfl,hb2⟩)
      go_roundw
      case rel=>exact⟨k+1,by omega,by go_num,by show JW O (k+1)=A;rw[JW,HK.out,HJ.out];rfl,(hbr.trans ((Ay _ _).mono hbr.size)).trans (hb2.mono (by have:=hbr.size;simp;omega))⟩
      case measure=>simp[intOf];omega
  . obtain rfl:k=64:=by omega
    go_wp2;go_ret;exact⟨CV (by rw[HR.out,HK.out]),hbr⟩
theorem dZ{w:Z}{v:W}{O:List (Int × Int)}(hs:OwSl w v O):S X 259 #[v] w fun e w'=>e=I (A1 (F5 O))/\At w.heap.size w w':=by
 by_cases h:O.length=64
 . obtain⟨b,off,cap,rfl,hb,hc⟩:=hs.at (by omega)
   rw[h];exact jD h hs.1 hb hc
 . obtain⟨ao,cap,rfl⟩:=hs.shape
   refine(dz ao _ cap h).mono fun e w' ⟨he,hw⟩=>⟨?_,by rw[<- hw];exact AM _ _⟩
   rw[he,F5,AG h];rfl
end
section
open Go.RowKit
theorem Lb(b:Int)(hm:b<=9223372036854775807)(w:Z):S X 92 #[Y V b] w fun e w'=>e=I (A1 (CY b))/\w=w':=by
 by_cases h1:64<=b
 . by_cases h3:b<=768
   . have h0:0<=b:=by omega
     by_cases h2:b%64=0
     . have hr:CY b=A:=AF (by omega)
       rw[hr];have h2':(b%64==0)=A:=(by simp[h2]);clear hr h2;go_enter Tryz.func92,Tryz.ntmps92;go_wp2;go_ret;exact⟨rfl,rfl⟩
     . have hr:CY b=E:=AG (by omega)
       rw[hr];have h2':(b%64==0)=E:=(by simp[h2]);clear hr h2;go_enter Tryz.func92,Tryz.ntmps92;go_wp2;go_ret;exact⟨rfl,rfl⟩
   . have hr:CY b=E:=AG (by omega)
     rw[hr];clear hr;go_enter Tryz.func92,Tryz.ntmps92;go_wp2;go_ret;exact⟨rfl,rfl⟩
 . have hr:CY b=E:=AG (by omega)
   rw[hr];clear hr;go_enter Tryz.func92,Tryz.ntmps92;go_wp2;go_ret;exact⟨rfl,rfl⟩
theorem Xs(k:Nat)(h1:1<=k)(h2:k<=12)(w:Z):S X 92 #[Y V (64*(k:Int))] w fun e w'=>e=I (A1 A)/\w=w':=by
 have:=Lb (64*(k:Int)) (by omega) w;rw[Ux k h1 h2] at this;exact this
theorem YT(b:Int)(hm:b<=9223372036854775807)(h:CY b=E)(w:Z):S X 92 #[Y V b] w fun e w'=>e=I (A1 E)/\w=w':=by
 have:=Lb b hm w;rw[h] at this;exact this
theorem Wn(b:Int)(hm:b<=9223372036854775807)(w:Z):S X 52 #[Y V b] w fun e w'=>e=I (Y V (Na b))/\w=w':=by
 cases hb:CY b
 . have hr:Na b=0:=by unfold Na;rw[AE (by simp[hb])]
   rw[hr];have HB:=vJ hb;clear hb hr;go_enter Tryz.func52,Tryz.ntmps52;go_wp2_with (go_at_call 92;refine(YT b hm HB.out _).mono ?_;rintro e w' ⟨rfl,rfl⟩)
   go_ret;exact⟨rfl,rfl⟩
 . obtain⟨k,h1,h2,rfl⟩:=UX hb
   have hr:Na (64*(k:Int))=k:=(by unfold Na;rw[AC hb];omega);rw[hr];clear hr hb hm;go_enter Tryz.func52,Tryz.ntmps52;go_wp2_with (go_at_call 92;refine(Xs k h1 h2 _).mono ?_;rintro e w' ⟨rfl,rfl⟩)
   go_ret;exact⟨b8 (by omega),rfl⟩
theorem OG(g:Int)(w:Z):S X 56 #[Y V g] w fun e w'=>e=I (Y V (Ix g))/\w=w':=by
 by_cases h1:g<0
 . have hr:Ix g= -1:=AE (by omega)
   rw[hr];clear hr;go_enter Tryz.func56,Tryz.ntmps56;go_wp2;go_ret;exact⟨rfl,rfl⟩
 . by_cases h2:11<g
   . have hr:Ix g= -1:=AE (by omega)
     rw[hr];clear hr;go_enter Tryz.func56,Tryz.ntmps56;go_wp2;go_ret;exact⟨rfl,rfl⟩
   . by_cases h3:g=0
     . subst h3
       rw[show Ix 0=1 from rfl];clear h1 h2;go_enter Tryz.func56,Tryz.ntmps56;go_wp2;go_ret;exact⟨rfl,rfl⟩
     . have hr:Ix g=g*64:=by unfold Ix;rw[AC ⟨by omega,by omega⟩,AE h3]
       rw[hr];have h3':(g==0)=E:=(by simp[h3]);have h4:0<=g:=(by omega);have h5:g<=11:=(by omega);clear hr h3;go_enter Tryz.func56,Tryz.ntmps56;go_wp2;go_ret;exact⟨b8 (by omega),rfl⟩
theorem WC(g:Int)(w:Z):S X 57 #[Y V g] w fun e w'=>e=I (Y V (RT g))/\w=w':=by
 by_cases h:0<=g/\g<12
 . have hr:RT g=Ix g+1:=AC h
   rw[hr];obtain⟨h1,h2⟩:=h;obtain⟨d1,d2⟩:=ji g h1 h2;clear hr;go_enter Tryz.func57,Tryz.ntmps57;go_wp2_with (go_at_call 56;refine(OG g _).mono ?_;rintro e w' ⟨rfl,rfl⟩)
   go_ret;exact⟨rfl,rfl⟩
 . have hr:RT g= -1:=AE h
   have hd:Ix g= -1:=AE h;rw[hr];have HD:∀ w,S X 56 #[Y V g] w fun e w'=>e=I (Y V (-1))/\w=w':=fun w=>by
    have:=OG g w;rw[hd] at this;exact this
   clear hr h hd;go_enter Tryz.func57,Tryz.ntmps57;go_wp2_with (go_at_call 56;refine(HD _).mono ?_;rintro e w' ⟨rfl,rfl⟩)
   go_ret;exact⟨rfl,rfl⟩
theorem Y6(n:Int)(hm:n<=9223372036854775807)(w:Z):S X 140 #[Y V n] w fun e w'=>e=I (A1 (CJ n))/\w=w':=by
 by_cases h1:n<0
 . have hr:CJ n=E:=AG (by omega)
   rw[hr];clear hr;go_enter Tryz.func140,Tryz.ntmps140;go_wp2;go_ret;exact⟨rfl,rfl⟩
 . by_cases h2:768<=n
   . have hr:CJ n=E:=AG (by omega)
     rw[hr];clear hr;go_enter Tryz.func140,Tryz.ntmps140;go_wp2;go_ret;exact⟨rfl,rfl⟩
   . by_cases h3:n<64
     . by_cases h4:n<43
       . have hr:CJ n=A:=AF (by omega)
         rw[hr];clear hr;go_enter Tryz.func140,Tryz.ntmps140;go_wp2;go_ret;exact⟨rfl,rfl⟩
       . have hr:CJ n=(n==63):=by rw[Bool.eq_iff_iff];unfold CJ;simp only[Bd,beq_iff_eq];omega
         rw[hr];clear hr;go_enter Tryz.func140,Tryz.ntmps140;go_wp2;go_ret;exact⟨by simp,rfl⟩
     . have h0:0<=n:=by omega
       have hr:CJ n=decide (n%64<2):=(by rw[Bool.eq_iff_iff];unfold CJ;simp only[Bd];omega);rw[hr];clear hr;go_enter Tryz.func140,Tryz.ntmps140;go_wp2;go_ret;exact⟨by simp,rfl⟩
theorem LK(n:Int)(hm:n<=9223372036854775807)(B:Bool)(h:CJ n=B)(w:Z):S X 140 #[Y V n] w fun e w'=>e=I (A1 B)/\w=w':=by
 rw[<- h];exact Y6 n hm w
def CU(O:List (Int × Int))(j:Nat):Bool:=decide ((O.getD j (0,0)).1=0)
def Dm(O:List (Int × Int)):Nat->Nat
 |0=>0
 |k+1=>Dm O k+(if CJ (k:Int)=E/\CU O k=E then 1 else 0)
def Hk(O:List (Int × Int))(L g:Nat):Int:=
 match (Co L).find? (fun k=>CU O ((g+k)%L)) with
 |some k=>(((g+k)%L:Nat):Int)
 |none=> -1
theorem TK{O:List (Int × Int)}{L g k:Nat}(hk:k<L)(h:CU O ((g+k)%L)=A)(hn:∀ j,j<k->CU O ((g+j)%L)=E):Hk O L g=(((g+k)%L:Nat):Int):=by
 have e:(Co L).find? (fun k=>CU O ((g+k)%L))=U k:=by
  rw[List.find?_eq_some_iff_append];refine⟨h,Co k,(Co (L-k-1)).map (k+1+·),?_,fun a ha=>by simp[hn a (Bo.1 ha)]⟩;have e1:L=k+(1+(L-k-1)):=by omega
  conv=>lhs;rw[e1,List.range_add,List.range_add]
  simp[D6]
 unfold Hk;rw[e]
theorem YR{O:List (Int × Int)}{L g:Nat}(hn:∀ j,j<L->CU O ((g+j)%L)=E):Hk O L g= -1:=by
 have e:(Co L).find? (fun k=>CU O ((g+k)%L))=T:=by
  rw[List.find?_eq_none];intro x hx;simp[hn x (Bo.1 hx)]
 unfold Hk;rw[e]
def RSp(w:Z)(M:Nat->Prop)(p:W)(n:Int)(O:List (Int × Int)):Prop:=
 ∃ b v,p=Am (U ⟨b,0,T⟩)/\w.heap[b]? =U (Ar #[Y V n,v] 108 (0,0))/\OwR w 0 v O/\(∀ k,M k ↔ k=b\/v.ownBlock=U k)
section
variable {w:Z}{M:Nat->Prop}{p:W}{n:Int}{O:List (Int × Int)}
theorem RSp.cells(h:RSp w M p n O)(h0:0<O.length):∃ b g off cap,p=Am (U ⟨b,0,T⟩)/\w.cell? ⟨b,0,T⟩=U (Y V n)/\w.cell? ⟨b,1,T⟩=U (Ak (U ⟨g,off,T⟩) O.length cap)/\
 ∀ j,j<O.length->w.cell? ⟨g,off+j*2,T⟩=U (Y .u16 (O.getD j (0,0)).1)/\w.cell? ⟨g,off+j*2+1,T⟩=U (Y .u16 (O.getD j (0,0)).2):=by
 obtain⟨b,v,rfl,hb,ho,_⟩:=h;obtain⟨g,off,cap,rfl,_,hc⟩:=ho.sl.at h0;refine⟨b,g,off,cap,rfl,?_,?_,fun j hj=>?_⟩
 . rw[Az _ _ _ _ _ _ hb];rfl
 . rw[Az _ _ _ _ _ _ hb];rfl
 . exact hc j hj
end
def Hl(L:Nat)(g:Int):Nat:=if g<0\/(L:Int)<=g then 0 else g.toNat
theorem IU(size:Int)(w:Z)(h:1<=size/\size<=8):
 S X 186 #[Y V size] w fun e w'=>e=I (A1 A)/\w=w':=by
 obtain⟨h1,h2⟩:=h;go_enter Tryz.func186,Tryz.ntmps186;go_wp2;go_ret;exact⟨rfl,rfl⟩
theorem Yv(size:Int)(w:Z)(h:¬ (1<=size/\size<=8)):
 S X 186 #[Y V size] w fun e w'=>e=I (A1 E)/\w=w':=by
 by_cases h1:1<=size
 . have h2:¬ size<=8:=fun h2=>h ⟨h1,h2⟩
   go_enter Tryz.func186,Tryz.ntmps186;go_wp2;go_ret;exact⟨rfl,rfl⟩
 . go_enter Tryz.func186,Tryz.ntmps186
   go_wp2;go_ret;exact⟨rfl,rfl⟩
theorem FX{w:Z}{v:W}{l:List Int}(hs:BSl w v l)(hl:l.length<=140737488355300)(n size:Int)(k:Nat)(hk:k<=8)(hk1:1<=k)(En:size=k)(h0:0<=n)(h1:n<18446744073709551616):
 S X 158 #[v,Y .u64 n,Y V size] w (JZ w (l ++ BN n k)):=by
 subst En;obtain⟨ao,cap,rfl,Cm⟩:=hs.shape;have hby:=hs.1;have IK:=ED hs (w1:=w.alloc (Ar (A3 (l.length+k) (Y .u8 0)) 5)) (fun p hp=>Df w _ p hp) l.length;rw[B8] at IK;obtain⟨N,hN⟩:=nm l.length;rw[<- hN] at hl Cm IK |-
 have hg2:(w.alloc (Ar (A3 (N+k) (Y .u8 0)) 5)).heap[w.heap.size]? =U (Ar (AD (N+k) (Y .u8 0)).toArray 5 (0,0)):=by
  rw[Aw];simp
 have hcl:(l.map (Y .u8)).length=N:=by rw[Bk,<- hN]
 have hmm:N=Nat.min N N:=by simp
 have IE:0+(l.map (Y .u8)).length<=(AD (N+k) (Y .u8 0)).length:=by rw[Bk,<- hN];simp
 have HN:=vJ hN;have HG:=vJ hg2;have HC:=vJ hcl;have HM:=vJ hmm;have HF:=vJ IE;have HP:=vJ IK;have HBY:=vJ hby;have hbl:At w.heap.size w (w.alloc (Ar (A3 (N+k) (Y .u8 0)) 5)):=(AM _ _).alloc (AB _) _;have oF:k<=9223372036854775807:=by omega
 have hnk:N+k<=200000000000000:=by omega
 clear hN hg2 hcl hmm IE IK hby hs;go_enter Tryz.func158,Tryz.ntmps158
 go_wp2_with (first
  |(go_at_call 186;refine(IU _ _ ⟨by omega,by omega⟩).mono ?_;rintro e w' ⟨rfl,rfl⟩)
  |(at_make;refine DC _ rfl _ _ rfl _ _ N (N+k) rfl rfl rfl (by push_cast;rfl) (by omega) (by omega) ?_)
  |(with_reducible refine C8 rfl _ _ 49 49 rfl 5 Tryz.underlying49 (by kernel_rfl) _ _ _ _ _ _ rfl rfl w.heap.size 0 (AD (N+k) (Y .u8 0)) 5 HG.out (l.map (Y .u8)) N HC.out HM.out (fun h=>⟨rfl,HP.out h⟩) HF.out (ints_oneCell _ _) ?_;intro w2 HG3 HW2))
 have hb2:At w.heap.size w w2:=hbl.trans (HW2.below (AB _));have hob:OB w2 w.heap.size (Ak (U ⟨w.heap.size,0,T⟩) N (N+k)) l:=by
  have h3:=HG3.out;rw[HN.out];refine OB.of_heap (rest:=AD k (Y .u8 0)) HBY.out (AB _) ?_ (by simp) (by simp only[maxLen];have:=HN.out;omega);rw[h3];simp[splice,HN.out]
 clear HG3 HW2
 go_loopw [1,7,22] (fun c u i wr=>∃ (j:Nat) (m:Int),j<=k/\i=Y V j/\c=Y .u64 m/\0<=m/\m<18446744073709551616/\Hid (m=n / 2 ^ (8*j))/\Hid (OB wr w.heap.size u (l ++ BN n j))/\At w.heap.size w wr)
  (fun _ _ i _=>k-(intOf i).toNat)
 case atStart=>exact⟨0,n,by omega,rfl,rfl,h0,h1,by simp[Hid],by simp[Hid,Hy];exact hob,hb2⟩
 case round=>
  obtain⟨j,m,hj,rfl,rfl,FH,hm1,HM2,HO,hbr⟩:=hrel;by_cases hlt:j<k
  . have hlen:(l ++ BN n j).length+1<=140737488355328:=by rw[Ax,Bc,<- HN.out];omega
    have HLE:=vJ hlen;clear hlen;go_wp2_with (at_builtin;refine F6 wr _ rfl _ _ rfl w.heap.size _ _ rfl HO.out ⟨by omega,by omega⟩ rfl HLE.out hbr.size ?_;intro v' w3 hob3 hb3)
    go_roundw
    case rel=>
     refine⟨j+1,m / 256,by omega,by go_num,rfl,by omega,by omega,?_,?_,hbr.trans (hb3)⟩
     . show _=_
       rw[HM2.out,<- jY];rfl
     . show OB _ _ _ _
       rw[Hz,<- AQ,<- HM2.out];exact hob3
    case measure=>simp[intOf];omega
  . go_wp2_with fail
    go_ret;obtain rfl:j=k:=by omega
    exact⟨_,rfl,HO.out,hbr⟩
theorem bJ{w:Z}{b off cap:Nat}{l:List Int}(hby:FJ l)(hl:l.length<=140737488355300)
 (hc:∀ j,j<l.length->w.cell? ⟨b,off+j,T⟩=U (Y .u8 (l.getD j 0))) (a k:Nat) (hk1:1<=k) (hk:k<=8) (XU:a+k<=l.length):
 S X 181 #[Ak (U ⟨b,off,T⟩) l.length cap,Y V a,Y V k] w fun e w'=>e=I (AO #[Y .u64 (Cc l a k),A1 A])/\w=w':=by
 obtain⟨N,hN⟩:=nm l.length;rw[<- hN] at hl hc XU |-
 have HN:=vJ hN;have HC:=vJ hc;have HB:=vJ (CZ hby);have HBY:=vJ hby;clear hN hc hby;go_enter Tryz.func181,Tryz.ntmps181;go_wp2_with (go_at_call 186;refine(IU _ _ ⟨by omega,by omega⟩).mono ?_;rintro e w' ⟨rfl,rfl⟩)
 go_loop [8,9] (fun c i=>∃ (j:Nat) (m:Int),j<=k/\i=Y V ((j:Int)-1)/\c=Y .u64 m/\Hid (m=Cc l (a+j) (k-j)))
  (fun _ i=>(intOf i+1).toNat)
 case atStart=>exact⟨k,0,by omega,rfl,rfl,by simp[Hid,On]⟩
 case round=>
  obtain⟨j,m,hj,rfl,rfl,HM⟩:=hrel;have hb:=D4 HB.out (a+j) (k-j);rw[<- HM.out] at hb;by_cases hlt:1<=j
  . have hp:=F8 (show k-j<=7 by omega)
    have hm1:m<72057594037927936:=(by omega);have FH:=hb.1;have hx:=HBY.out (a+j-1);have Oc:=HC.out (a+j-1) (by omega);obtain⟨x,hx'⟩:=nm (l.getD (a+j-1) 0);rw[<- hx'] at hx Oc;have HX:=vJ hx';clear hx' hb hp;have e1:(a:Int)+((j:Int)-1)<(N:Int):=(by omega);have e2:((a:Int)+((j:Int)-1)).toNat=a+j-1:=(by omega);go_wp2_with fail
    go_round
    case rel=>
     refine⟨j-1,_,by omega,by congr 1;omega,rfl,?_⟩;show _=_
     have h8:=km m x 8 FH hx.1 (by omega) (by omega) (by omega);rw[show m*2 ^ 8=m*256 from rfl] at h8;rw[h8,show k-(j-1)=k-j+1 by omega,SY l _ _ (by have:=HN.out;omega),show a+(j-1)=a+j-1 by omega,<- HX.out,show a+j-1+1=a+j by omega,<- HM.out];omega
    case measure=>simp[intOf];omega
  . go_wp2_with fail
    go_ret2;obtain rfl:j=0:=by omega
    exact⟨by rw[HM.out];simp,rfl⟩
theorem m9{w:Z}{ao:Option Addr}{len cap:Nat}(hl:len<=140737488355300)(a k:Int)(h0: -9223372036854775808<=a)(h1:a<=9223372036854775807)(h:¬ (1<=k/\k<=8/\0<=a/\a+k<=len)):
 S X 181 #[Ak ao len cap,Y V a,Y V k] w fun e w'=>e=I (AO #[Y .u64 0,A1 E])/\w=w':=by
 by_cases hk:1<=k/\k<=8
 . by_cases ha:0<=a
   . have hh:(len:Int)-k<a:=by omega
     have pF:=hk.2;have hk1:=hk.1;go_enter Tryz.func181,Tryz.ntmps181;go_wp2_with (go_at_call 186;refine(IU _ _ hk).mono ?_;rintro e w' ⟨rfl,rfl⟩)
     go_ret2;exact⟨rfl,rfl⟩
   . have ha':a<0:=by omega
     go_enter Tryz.func181,Tryz.ntmps181;go_wp2_with (go_at_call 186;refine(IU _ _ hk).mono ?_;rintro e w' ⟨rfl,rfl⟩)
     go_ret2;exact⟨rfl,rfl⟩
 . go_enter Tryz.func181,Tryz.ntmps181
   go_wp2_with (go_at_call 186;refine(Yv _ _ hk).mono ?_;rintro e w' ⟨rfl,rfl⟩)
   go_ret2;exact⟨rfl,rfl⟩
theorem dD{w:Z}{b off cap:Nat}{l:List Int}(hl:l.length<=140737488355300)(hby:FJ l)
 (hc:∀ j,j<l.length->w.cell? ⟨b,off+j,T⟩=U (Y .u8 (l.getD j 0))):
 S X 193 #[Ak (U ⟨b,off,T⟩) l.length cap] w fun e w'=>e=I (Y .u32 (FB l))/\w=w':=by
 obtain⟨N,hN⟩:=nm l.length;rw[<- hN] at hl hc |-
 have HN:=vJ hN;have HC:=vJ hc;have HBY:=vJ hby;clear hN hc hby;go_enter Tryz.func193,Tryz.ntmps193;go_wp2_with fail
 go_loop [3,8] (fun c i=>∃ (j:Nat) (m:Int),j<=N/\i=Y V j/\c=Y .u32 m/\0<=m/\m<4294967296/\Hid (m=FB (l.take j))) (fun _ i=>N-(intOf i).toNat)
 case atStart=>exact⟨0,_,by omega,rfl,rfl,by omega,by omega,rfl⟩
 case round=>
  obtain⟨j,m,hj,rfl,rfl,FH,hm1,HM⟩:=hrel;by_cases hlt:j<N
  . have hx:=HBY.out j
    have Oc:=HC.out j hlt;obtain⟨x,hx'⟩:=nm (l.getD j 0);rw[<- hx'] at hx Oc;have HX:=vJ hx';clear hx';go_wp2_with fail
    go_round
    case rel=>
     refine⟨j+1,_,by omega,by go_num,rfl,(FK m x).1,(FK m x).2,?_⟩;show _=_
     rw[Tb l j (by have:=HN.out;omega),<- HM.out,<- HX.out];rfl
    case measure=>simp[intOf];omega
  . go_wp2_with fail
    go_ret;exact⟨JN (by rw[HM.out,AV (by have:=HN.out;omega)]),rfl⟩
theorem gR{w:Z}{ao:Option Addr}{cap:Nat}:
 S X 193 #[Ak ao 0 cap] w fun e w'=>e=I (Y .u32 (FB []))/\w=w':=by
 go_enter Tryz.func193,Tryz.ntmps193;go_wp2_with fail
 refine wp_loop_rounds 1 ?_;rw[rounds_succ];go_wp2_with fail
 go_ret;exact⟨rfl,rfl⟩
theorem jb{w:Z}{v:W}{l:List Int}(hs:BSl w v l)(hl:l.length<=140737488355300):
 S X 193 #[v] w fun e w'=>e=I (Y .u32 (FB l))/\w=w':=by
 by_cases h0:l.length=0
 . obtain⟨ao,cap,rfl,_⟩:=hs.shape
   obtain rfl:l=[]:=Bb h0;exact gR
 . rcases hs.2 with⟨_,rfl⟩| ⟨⟨b,off,spot⟩,cap,rfl,_,hc⟩
   . simp at h0
   . obtain rfl:spot=T:=(hc 0 (by omega)).2.1
     exact dD hl hs.1 fun j hj=>(hc j hj).2.2
theorem gz{w:Z}{b off cap:Nat}{l:List Int}(hl:l.length<=140737488355300)(hby:FJ l)
 (hc:∀ j,j<l.length->w.cell? ⟨b,off+j,T⟩=U (Y .u8 (l.getD j 0))):
 S X 141 #[Ak (U ⟨b,off,T⟩) l.length cap] w fun e w'=>e=I (Y .u32 (FB l))/\w=w':=by
 obtain⟨N,hN⟩:=nm l.length;rw[<- hN] at hl hc |-
 have HN:=vJ hN;have HC:=vJ hc;have HBY:=vJ hby;clear hN hc hby;go_enter Tryz.func141,Tryz.ntmps141;go_wp2_with fail
 go_loop [3,7] (fun c i=>∃ (j:Nat) (m:Int),j<=N/\i=Y V j/\c=Y .u32 m/\0<=m/\m<4294967296/\Hid (m=FB (l.take j))) (fun _ i=>N-(intOf i).toNat)
 case atStart=>exact⟨0,_,by omega,rfl,rfl,by omega,by omega,rfl⟩
 case round=>
  obtain⟨j,m,hj,rfl,rfl,FH,hm1,HM⟩:=hrel;by_cases hlt:j<N
  . have hx:=HBY.out j
    have Oc:=HC.out j hlt;obtain⟨x,hx'⟩:=nm (l.getD j 0);rw[<- hx'] at hx Oc;have HX:=vJ hx';clear hx';go_wp2_with fail
    go_round
    case rel=>
     refine⟨j+1,_,by omega,by go_num,rfl,(FK m x).1,(FK m x).2,?_⟩;show _=_
     rw[Tb l j (by have:=HN.out;omega),<- HM.out,<- HX.out];rfl
    case measure=>simp[intOf];omega
  . go_wp2_with fail
    go_ret;exact⟨JN (by rw[HM.out,AV (by have:=HN.out;omega)]),rfl⟩
theorem dg{w:Z}{ao:Option Addr}{cap:Nat}:
 S X 141 #[Ak ao 0 cap] w fun e w'=>e=I (Y .u32 (FB []))/\w=w':=by
 go_enter Tryz.func141,Tryz.ntmps141;go_wp2_with fail
 refine wp_loop_rounds 1 ?_;rw[rounds_succ];go_wp2_with fail
 go_ret;exact⟨rfl,rfl⟩
theorem lw{w:Z}{v:W}{l:List Int}(hs:BSl w v l)(hl:l.length<=140737488355300):
 S X 141 #[v] w fun e w'=>e=I (Y .u32 (FB l))/\w=w':=by
 by_cases h0:l.length=0
 . obtain⟨ao,cap,rfl,_⟩:=hs.shape
   obtain rfl:l=[]:=Bb h0;exact dg
 . rcases hs.2 with⟨_,rfl⟩| ⟨⟨b,off,spot⟩,cap,rfl,_,hc⟩
   . simp at h0
   . obtain rfl:spot=T:=(hc 0 (by omega)).2.1
     exact gz hl hs.1 fun j hj=>(hc j hj).2.2
def Mg(l:List Int)(a k:Int):Int:=if 1<=k/\k<=8/\0<=a/\a+k<=l.length then Cc l a.toNat k.toNat else 0
def SB(l:List Int)(a k:Int):Bool:=decide (1<=k/\k<=8/\0<=a/\a+k<=l.length)
theorem NO{w:Z}{v:W}{l:List Int}(hs:BSl w v l)(hl:l.length<=140737488355300)(a k:Int)(h0: -9223372036854775808<=a)(h1:a<=9223372036854775807):
 S X 181 #[v,Y V a,Y V k] w fun e w'=>e=I (AO #[Y .u64 (Mg l a k),A1 (SB l a k)])/\w=w':=by
 by_cases h:1<=k/\k<=8/\0<=a/\a+k<=l.length
 . rcases hs.2 with⟨_,rfl⟩| ⟨⟨b,off,spot⟩,cap,rfl,_,hc⟩
   . simp at h;omega
   . obtain rfl:spot=T:=(hc 0 (by omega)).2.1
     have:=bJ (cap:=cap) hs.1 hl (fun j hj=>(hc j hj).2.2) a.toNat k.toNat (by omega) (by omega) (by omega);rw[show((a.toNat:Nat):Int)=a by omega,show((k.toNat:Nat):Int)=k by omega] at this;simp only[Mg,SB,AC h,AF h];exact this
 . obtain⟨ao,cap,rfl,_⟩:=hs.shape
   simp only[Mg,SB,AE h,AG h];exact m9 hl a k h0 h1 h
theorem GO{w:Z}{v:W}{l:List Int}(hs:BSl w v l)(hl:l.length<=140737488355300)(n size:Int)(k:Nat)(hk:k<=8)(hk1:1<=k)(En:size=k)(h0:0<=n)(h1:n<18446744073709551616):
 S X 79 #[v,Y .u64 n,Y V size] w (JZ w (l ++ BN n k)):=by
 subst En;obtain⟨ao,cap,hv,_⟩:=hs.shape;have hlen:([]:List Int).length+l.length<=140737488355328:=by simp;omega
 obtain⟨N,hN⟩:=nm l.length;rw[<- hN] at hv hl;subst hv;have HS:=vJ hs;have HL:=vJ hlen;have HN:=vJ hN;clear hs hlen hN;go_enter Tryz.func79,Tryz.ntmps79;go_wp2_with (at_builtin;refine BY _ rfl _ _ rfl w.heap.size _ [] rfl (Rm w) w _ l rfl HS.out (fun p hp=>Df w _ p hp) HL.out (by simp) ?_;intro v2 w2 hob2 hb2 _)
 have hbe:At w.heap.size w w2:=((AM _ _).alloc (AB _) _).trans hb2;rw[B0] at hob2;clear hb2
 go_loopw [7,20] (fun u i wr=>∃ j:Nat,j<=k/\i=Y V j/\Hid (OB wr w.heap.size u (l ++ BN n j))/\At w.heap.size w wr)
  (fun _ i _=>k-(intOf i).toNat)
 case atStart=>exact⟨0,by omega,rfl,by simp[Hid,Hy];exact hob2,hbe⟩
 case round=>
  obtain⟨j,hj,rfl,HO,hbr⟩:=hrel;by_cases hlt:j<k
  . have hlen:(l ++ BN n j).length+1<=140737488355328:=by rw[Ax,Bc,<- HN.out];omega
    have HLE:=vJ hlen;have hx0:0<=n / 2 ^ (8*j)%256/\n / 2 ^ (8*j)%256<=255:=(by omega);clear hlen;go_wp2_with (at_builtin;refine F6 wr _ rfl _ _ rfl w.heap.size _ _ rfl HO.out hx0 rfl HLE.out hbr.size ?_;intro v' w3 hob3 hb3)
    go_roundw
    case rel=>
     refine⟨j+1,by omega,by go_num,?_,hbr.trans hb3⟩;show OB _ _ _ _
     rw[Hz,<- AQ];exact hob3
    case measure=>simp[intOf];omega
  . go_wp2_with fail
    go_ret;obtain rfl:j=k:=by omega
    exact⟨_,rfl,HO.out,hbr⟩
theorem Hp(m:Nat):Builtin.zeroCells (Y .u8 0).cells m=A3 m (Y .u8 0):=by
 apply Array.ext
 . simp[Builtin.zeroCells,W.cells]
 . intro j h1 h2
   simp[Builtin.zeroCells,W.cells,Nat.mod_one]
theorem Tf:V.wrap 0=0:=by decide
theorem OP(w:Z)(B:Nat)(ty:TypeId)(v:W)(n:Nat)(xs:List W)(hown:w.ownsRow B 5 1 v n xs)(m:Nat)(hlen:n+m<=140737488355328)(hB:B<=w.heap.size):
 ∃ v' w',(Builtin.append_ #[49,3] ty #[v,Y V m]).run X w=.ok v' w'/\w'.ownsRow B 5 1 v' (n+m) (xs ++ AD m (Y .u8 0))/\w.grownBy w' v.ownBlock:=by
 obtain⟨i,h2,h3,h4,h5⟩:=By F7;have qZ:xs.length=n:=by simpa using hown.1
 have hm1:V.wrap (m:Int)=m:=by rw[IntKind.wrap_i64];omega
 have hm2:¬ (m:Int)<0:=by omega
 have sE:¬ 281474976710656<(m:Int):=by omega
 have Sf:(xs ++ AD m (Y .u8 0)).length=(n+m)*1:=by simp[qZ]
 have grown:∀ (old:Nat),old<n+m->∀ (row:Option Nat),
  (w.drew.alloc (Ar (xs.toArray ++ A3 m (Y .u8 0) ++ A3 (grownCap w (n+m) old 5-(n+m)) (Y .u8 0)) 5)).ownsRow B 5 1
    (Ak (U ⟨w.heap.size,0,T⟩) (n+m) (grownCap w (n+m) old 5)) (n+m) (xs ++ AD m (Y .u8 0))/\
  w.grownBy (w.drew.alloc (Ar (xs.toArray ++ A3 m (Y .u8 0) ++ A3 (grownCap w (n+m) old 5-(n+m)) (Y .u8 0)) 5)) row:=by
  intro old ho row;have hge:=grownCap_ge w (n+m) old 5;have LD:grownCap w (n+m) old 5<=maxLen:=grownCap_le_maxLen w (n+m) old 5 (by simp only[maxLen];omega);refine⟨⟨Sf,Ba ⟨w.heap.size,_,_,rfl,hB,Aw w.drew _,hge,LD,?_,?_⟩⟩,⟨rfl,rfl,rfl,by simp,fun k hk _=>@Go.heap_alloc_old w.drew _ _ hk⟩⟩
  . simp[qZ];omega
  . simp only[Array.toList_append,Array.toList_replicate]
    rw[<- Sf,Dl]
    . rfl
 have hz:(if m=0 then (pure #[]:Sem (Array W)) else pure (Builtin.zeroCells (Y .u8 0).cells m))=pure (A3 m (Y .u8 0)):=by
  by_cases h0:m=0
  . subst h0;simp
  . rw[AE h0,Hp]
 rcases hown.2 with⟨rfl,rfl⟩| ⟨g,cap,cur,rfl,hbg,hg,Hn,LD,Hb,tB⟩
 . obtain rfl:xs=[]:=Bb qZ
   by_cases hm:m=0
   . subst hm
     refine⟨Ak T 0 0,w,?_,E4 w B 5 1,⟨rfl,rfl,rfl,AB _,fun _ _ _=>rfl⟩⟩;simp[Builtin.append_,C2 Tryz.underlying49,C2 Tryz.underlying3,sizeOf,typeInfo,h2,h5,asInt,asIntOf,Tf]
   . have hgr:=grown 0 (by omega) (W.ownBlock (Ak T 0 0))
     have Bu:¬ (281474976710656<Builtin.nextslicecap m 0*1):=(by rw[nextslicecap_zero (by omega)];omega);simp only[Bm,B0] at hgr |-
     refine⟨_,_,?_,hgr.1,hgr.2⟩;have hc1:¬ 9223372036854775807<(m:Int):=by omega
     simp only[Nat.mul_one] at Bu;simp[Builtin.append_,C2 Tryz.underlying49,C2 Tryz.underlying3,sizeOf,typeInfo,zeroValue,h2,h3,h4,h5,asInt,asIntOf,hm1,hm2,sE,hm,hc1,Bu,Question.forced,run_firstCells_none,newRow,grownCap];simp[Hp]
 . by_cases hroom:n+m<=cap
   . have hst:=run_storeCells_at X g n 5 (AD m (Y .u8 0)) 0 cur w hg (by simp;omega) (fun u hu=>by rw[BR hu];rfl)
     refine⟨_,w.setRow g (cur.toList.take n ++ AD m (Y .u8 0) ++ cur.toList.drop (n+m)).toArray,?_,⟨Sf,Ba ⟨g,cap,_,rfl,hbg,Cr w g cur _ 5 _ hg,hroom,LD,?_,?_⟩⟩,⟨rfl,rfl,rfl,by simp,fun k _ hk=>setRow_other w g k _ (fun e=>hk (by simp[W.ownBlock,e]))⟩⟩
     . by_cases hm:m=0
       . subst hm
         simp[Builtin.append_,C2 Tryz.underlying49,C2 Tryz.underlying3,sizeOf,typeInfo,h2,h5,asInt,asIntOf,Tf,Hn,storeCells];exact(setRow_self w g cur 5 (0,0) hg).symm
       . simp[Builtin.append_,C2 Tryz.underlying49,C2 Tryz.underlying3,sizeOf,typeInfo,zeroValue,h2,h3,h4,h5,asInt,asIntOf,hm1,hm2,sE,hm,hroom]
         rw[Hp,Array.toList_replicate,Cb,Bm,hst];simp
     . simp;omega
     . have ht:cur.toList.take n=xs:=by simpa using tB
       rw[ht,<- Sf,Dl rfl]
   . have hgr:=grown cap (by omega) (W.ownBlock (Ak (U ⟨g,0,T⟩) n cap))
     refine⟨_,_,?_,hgr.1,hgr.2⟩;have hn:¬ (n+m<=cap):=hroom;have FH:m≠0:=by omega
     have h63':¬ (9223372036854775807<((n:Int)+(m:Int))):=(by omega);have Bu:=growslice_fits (bytes:=1) (show cap<n+m by omega) (by omega);have h48':¬ (281474976710656<Builtin.nextslicecap (n+m) cap):=(by omega);have cw:=run_firstCells_some (P:=X) w.drew 1 n ⟨g,0,T⟩ n cap xs (by simpa using qZ) (by
      have hc:w.ownsRow B 5 1 (Ak (U ⟨g,0,T⟩) n cap) n xs:=hown;exact hc.cells (g:=g) rfl)
     simp[Builtin.append_,C2 Tryz.underlying49,C2 Tryz.underlying3,sizeOf,typeInfo,zeroValue,h2,h3,h4,h5,asInt,asIntOf,hm1,hm2,sE,FH,hn,h63',h48',Question.forced,cw,newRow,grownCap,Hp]
theorem Ev(w:Z){ops:Array BS}{rest:List BS}{o:BS}{a:Act}{Q:Exit->Act->Z->Prop}(Dn:o.guard=T)(s x:Operand)
 (ho:o.op=.call { callee:=.builtin .append,args:=#[s,x],argTypes:=#[49,3] })
 (B:Nat) (v:W) (l:List Int) (hs:a.eval s=v) (hown:OB w B v l) (C:Int) (m:Nat) (hx:a.eval x=Y V C) (hC:C=m) (hlen:l.length+m<=140737488355328) (hB:B<=w.heap.size)
 (h:∀ v' w',OB w' B v' (l ++ AD m 0)->At B w w'->Cn X ops Q rest (a.put o.dst v') w'):Cn X ops Q (o :: rest) a w:=by
 subst hC;obtain⟨v',w',hr,h2,h3⟩:=OP w B o.type v l.length _ hown.2 m hlen hB;refine CM Dn fun K hK=>?_
 unfold BS.wp execOp;simp only[ho,resolve,invoke,builtin,DE,Sem.run_pure,Result.andThen_ok,Jd,J5,Sd,hs,hx,hr];refine hK _ _ (h v' w' ⟨CS hown.1 (CW m),?_⟩ ((AM _ _).grown h3 hB fun k hk=>(hown.2.lt k hk).1))
 simpa using h2
end
end Go.Proofs.YtdefiimcmecnnaaGreat
