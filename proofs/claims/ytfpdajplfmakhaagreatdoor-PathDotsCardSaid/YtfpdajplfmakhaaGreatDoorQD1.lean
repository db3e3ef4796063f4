/- What the law rests on. -/
import Derived.WalkKit
import Derived.Laws.BitsAllLaws
import Derived.Test.YtfpdajplfmakhaaGreatDoorRows
import Derived.WalkSpells
import Derived.WalkLawsBesides
import Derived.BigQuiet
import Derived.Lib.Hide
import Derived.Laws.CopyOwn
import Derived.Laws.BytesArg
import Derived.Laws.AppendOwnNone
import Derived.Maps.AppendAt
import Derived.OwnWalk
import Derived.OpenShut
import Derived.SizedLaws
import Derived.Deep.QuietTactic
import Derived.Deep.MidRow
import Derived.Deep.WholeRow
import Derived.Deep.CutRange
import Derived.IntWalk
open Go.Value renaming int->Y,slice->Aw,pointer->Ax,tuple->AT,bool->AY,agg->BS
open Go.IntKind renaming i64->V
open Go.Proofs.Tryz renaming prog->E
open Option renaming none->T,some->U
open Go renaming World->Z,Value->A,Calls->I,Oper->BK,strOfNums->B7,wpList->Cj,TypeId->Cn
open Go.Ending renaming returned->W
open Go.Obj renaming cells->Ay
open Go.RowKit renaming Below->AB
open List renaming replicate->AI,range->BE,length_cons->BJ
open Bool renaming false->X,true->AQ
open Array renaming replicate->AW
open Or renaming inl->A4,inr->A8
open Int renaming toNat_natCast->Cf
open Go.Proofs.Tryz
namespace Go.Proofs.YtfpdajplfmakhaaGreatDoor
set_option linter.defProp false
set_option maxHeartbeats 12000000
set_option linter.unusedVariables false
set_option maxRecDepth 100000
theorem Au:type_of% @Array.getElem?_eq_some_iff:=@Array.getElem?_eq_some_iff
theorem Az:type_of% @List.getD_eq_getElem?_getD:=@List.getD_eq_getElem?_getD
theorem AC:type_of% @Go.heap_alloc_new:=@Go.heap_alloc_new
theorem AD:type_of% @Go.cell_of_row:=@Go.cell_of_row
theorem AE:type_of% @Nat.le_refl:=@Nat.le_refl
theorem AG:type_of% @if_pos:=@if_pos
theorem AJ:type_of% @if_neg:=@if_neg
theorem AK:type_of% @decide_eq_true:=@decide_eq_true
theorem AL:type_of% @Nat.lt_of_lt_of_le:=@Nat.lt_of_lt_of_le
theorem AM:type_of% @decide_eq_false:=@decide_eq_false
theorem AO:type_of% @List.length_append:=@List.length_append
theorem AP:type_of% @Go.RowKit.Below.refl:=@Go.RowKit.Below.refl
theorem AU:type_of% @Nat.le_trans:=@Nat.le_trans
theorem AV:type_of% @List.length_take:=@List.length_take
theorem AX:type_of% @List.getElem?_eq_getElem:=@List.getElem?_eq_getElem
theorem AZ:type_of% @Go.heap_setCell_other:=@Go.heap_setCell_other
theorem A0:type_of% @Bool.and_eq_true:=@Bool.and_eq_true
theorem A2:type_of% @List.take_of_length_le:=@List.take_of_length_le
theorem A3:type_of% @List.eq_nil_of_length_eq_zero:=@List.eq_nil_of_length_eq_zero
theorem Ba:type_of% @of_decide_eq_true:=@of_decide_eq_true
theorem Bb:type_of% @List.getElem?_take:=@List.getElem?_take
theorem Be:type_of% @Go.Value.slice.inj:=@Go.Value.slice.inj
theorem Bf:type_of% @List.getElem?_eq_none:=@List.getElem?_eq_none
theorem Bg:type_of% @List.length_replicate:=@List.length_replicate
theorem Bh:type_of% @decide_eq_true_eq:=@decide_eq_true_eq
theorem Bj:type_of% @List.append_assoc:=@List.append_assoc
theorem Bk:type_of% @Go.heap_setCell_same:=@Go.heap_setCell_same
theorem Bn:type_of% @List.length_map:=@List.length_map
theorem Bo:type_of% @List.getElem?_eq_some_iff:=@List.getElem?_eq_some_iff
theorem Bq:type_of% @List.mem_range:=@List.mem_range
theorem Bs:type_of% @Go.info_parts:=@Go.info_parts
theorem Bt:type_of% @List.ext_getElem:=@List.ext_getElem
theorem Bv:type_of% @List.getElem?_drop:=@List.getElem?_drop
theorem By:type_of% @List.length_drop:=@List.length_drop
theorem BC:type_of% @Nat.zero_add:=@Nat.zero_add
theorem BF:type_of% @congrArg:=@congrArg
theorem BI:type_of% @List.take_succ_eq_append_getElem:=@List.take_succ_eq_append_getElem
theorem BT:type_of% @List.getElem?_append_left:=@List.getElem?_append_left
theorem BU:type_of% @List.mem_append:=@List.mem_append
theorem BY:type_of% @Go.World.ownsRow.lt:=@Go.World.ownsRow.lt
theorem BZ:type_of% @List.take_length:=@List.take_length
theorem B5:type_of% @List.getElem?_append_right:=@List.getElem?_append_right
theorem B6:type_of% @List.eq_of_mem_replicate:=@List.eq_of_mem_replicate
theorem B9:type_of% @List.mem_cons_of_mem:=@List.mem_cons_of_mem
theorem Cd:type_of% @Go.Addr.add_lit:=@Go.Addr.add_lit
theorem Ce:type_of% @List.mem_map:=@List.mem_map
theorem Ck:type_of% @Go.run_underlying:=@Go.run_underlying
theorem Cw:type_of% @List.map_append:=@List.map_append
theorem CA:type_of% @List.getElem?_replicate:=@List.getElem?_replicate
theorem CC:type_of% @List.getElem_of_mem:=@List.getElem_of_mem
theorem CH:type_of% @Go.wpList_plain:=@Go.wpList_plain
theorem CJ:type_of% @Go.setRow_heap:=@Go.setRow_heap
theorem CL:type_of% @List.flatMap_cons:=@List.flatMap_cons
theorem CX:type_of% @List.drop_zero:=@List.drop_zero
theorem Dh:type_of% @Go.World.cell?_alloc_lt:=@Go.World.cell?_alloc_lt
theorem Dm:type_of% @Go.Sem.run_bind:=@Go.Sem.run_bind
theorem Dr:type_of% @List.take_append_of_le_length:=@List.take_append_of_le_length
theorem Dt:type_of% @Go.World.ownsRow_nil:=@Go.World.ownsRow_nil
theorem Dw:type_of% @Nat.add_assoc:=@Nat.add_assoc
theorem DC:type_of% @List.take_left':=@List.take_left'
theorem DE:type_of% @List.mem_of_mem_take:=@List.mem_of_mem_take
theorem DL:type_of% @List.take_length_add_append:=@List.take_length_add_append
theorem DT:type_of% @List.map_cons:=@List.map_cons
theorem DV:type_of% @Int.emod_eq_of_lt:=@Int.emod_eq_of_lt
theorem DY:type_of% @List.flatMap_append:=@List.flatMap_append
theorem Fe:type_of% @List.map_toArray:=@List.map_toArray
theorem Fu:type_of% @Nat.mod_two_eq_zero_or_one:=@Nat.mod_two_eq_zero_or_one
theorem FL:type_of% @Nat.min_eq_left:=@Nat.min_eq_left
theorem FU:type_of% @Go.wpList_append_own:=@Go.wpList_append_own
theorem Gt:type_of% @Go.all_oneCell_toArray:=@Go.all_oneCell_toArray
theorem GW:type_of% @List.range_succ:=@List.range_succ
theorem II:type_of% @List.map_nil:=@List.map_nil
theorem IJ:type_of% @List.drop_eq_getElem_cons:=@List.drop_eq_getElem_cons
theorem JE:type_of% @Nat.mod_lt:=@Nat.mod_lt
abbrev Ab:=List Int
abbrev Ae:=List (List Int)
abbrev Ag:=List (Int × Int)
theorem Aa{p:Prop}(h:p:=by omega):p:=h
theorem Ac{p:Prop}(h:p:=by kernel_rfl):p:=h
theorem Af{p:Prop}(h:p:=by decide):p:=h
theorem Ah{p:Prop}(h:p:=by assumption):p:=h
theorem Ai{p:Prop}(h:p:=by simp):p:=h
theorem Aj{p:Prop}(h:p:=by rfl):p:=h
theorem Ak{p:Prop}(h:p:=by simp; omega):p:=h
theorem Ad{P:Go.Program}{k:Nat}{a:Array Go.Value}{w:Go.World}{v:Go.Value}{R:Go.World->Prop}{Q:Go.Ending->Go.World->Prop}(h:Go.Calls P k a w fun e w'=>e=.returned v/\R w')(q:∀ w',R w'->Q (.returned v) w'):Go.Calls P k a w Q:=h.mono fun _ w' ⟨h1,h2⟩=>h1▸q w' h2
theorem nm{α:Type _}(a:α):∃ x,x=a:=⟨a,rfl⟩
theorem wN{p:Prop}(h:p):RowKit.Hid p:=Lib.hid h
section
open Go
def B8(n:Int)(k:Nat):Ab:=(BE k).map fun i=>n / 2 ^ (8*i)%256
def Bp(n:Int)(k:Nat):(B8 n k).length=k:=by simp[B8]
def Hl(n:Int)(k:Nat):B8 n (k+1)=B8 n k ++ [n / 2 ^ (8*k)%256]:=by
 simp[B8,GW]
def Hn(n:Int):B8 n 0=[]:=rfl
def iY(n:Int)(k:Nat):∀ x∈B8 n k,0<=x/\x<=255:=by
 intro x a;simp only[B8,Ce,Bq] at a;obtain⟨i,_,rfl⟩:=a;have:=Int.emod_nonneg (n / 2 ^ (8*i)) (show(256:Int)≠0 from Af);have:=Int.emod_lt_of_pos (n / 2 ^ (8*i)) (show(0:Int)<256 from Af);omega
def kX(n:Int)(j:Nat):n / 2 ^ (8*j) / 2 ^ 8=n / 2 ^ (8*(j+1)):=by
 rw[Int.ediv_ediv_of_nonneg (by exact Int.le_of_lt (Int.pow_pos Af)),<- Int.pow_add];rfl
def Z2:Ab->Int
 |[]=>0
 |x :: r=>x+256*Z2 r
def jD(l:Ab)(x:Int):Z2 (l ++ [x])=Z2 l+x*256 ^ l.length:=by
 induction l with
 |nil=>simp[Z2]
 |cons y r ih=>
  simp only[List.cons_append,Z2,ih,BJ,Int.pow_succ];rw[Int.mul_add,Int.mul_left_comm 256 x,Int.mul_comm 256 (256 ^ r.length)];omega
def Cs(l:Ab)(a size:Nat):Int:=Z2 ((l.drop a).take size)
def Sy(l:Ab)(a k:Nat)(h:a<l.length):Cs l a (k+1)=l.getD a 0+256*Cs l (a+1) k:=by
 unfold Cs;rw[IJ h,List.take_succ_cons,Z2];simp[h]
def RH(l:Ab)(a:Nat):Cs l a 0=0:=by simp[Cs,Z2]
def di(l:Ab)(h:∀ x∈l,0<=x/\x<=255):0<=Z2 l/\Z2 l<256 ^ l.length:=by
 induction l with
 |nil=>simp[Z2]
 |cons x r ih=>
  have b:=h x Ai;have c:=ih fun y a=>h y (by simp[a])
  simp only[Z2,BJ,Int.pow_succ];omega
def LK(k:Nat):(1:Int)<=256 ^ k:=by
 induction k with
 |zero=>simp
 |succ n ih=>rw[Int.pow_succ];omega
def Hi{k m:Nat}(h:k<=m):(256:Int) ^ k<=256 ^ m:=by
 induction m with
 |zero=>obtain rfl:k=0:=by omega
        exact Int.le_refl _
 |succ n ih=>
  by_cases e:k=n+1
  . rw[e];exact Int.le_refl _
  . have:=ih Aa
    have:=LK n;rw[Int.pow_succ];omega
def EI{l:Ab}(h:∀ x∈l,0<=x/\x<=255)(a k:Nat):0<=Cs l a k/\Cs l a k<256 ^ k:=by
 have d:=di ((l.drop a).take k) fun x c=>h x (List.mem_of_mem_drop (DE c))
 have b:((l.drop a).take k).length<=k:=Ak;have f:=Hi b;unfold Cs;omega
def qZ(a x:Int)(k:Nat)(h:0<=a)(d:0<=x)(c:x<2 ^ k)(b:a*2 ^ k<18446744073709551616)(f:x<18446744073709551616):
 bits BinOp.or IntKind.u64 (a*2 ^ k) x=a*2 ^ k+x:=by
 obtain⟨m,rfl⟩:∃ m:Nat,a=m:=⟨a.toNat,Aa⟩;obtain⟨y,rfl⟩:∃ y:Nat,x=y:=⟨x.toNat,Aa⟩;have e:(m:Int)*2 ^ k=((m*2 ^ k:Nat):Int):=by push_cast;rfl
 have g:y<2 ^ k:=by
  have:((y:Nat):Int)<((2 ^ k:Nat):Int):=by push_cast;exact c
  omega
 rw[e] at b |-
 rw[u64_or_nat _ _ Aa Aa];have:=Nat.shiftLeft_add_eq_or_of_lt g m;rw[Nat.shiftLeft_eq] at this;rw[<- this];push_cast;rfl
def OV(h c:Int):Int:=bits BinOp.xor IntKind.u32 h c*16777619%4294967296
def Fs(l:Ab):Int:=l.foldl OV 2166136261
def FF(h c:Int):0<=OV h c/\OV h c<4294967296:=
 ⟨Int.emod_nonneg _ Af,Int.emod_lt_of_pos _ Af⟩
def FR(l:Ab):0<=Fs l/\Fs l<4294967296:=by
 unfold Fs;rcases List.eq_nil_or_concat l with rfl| ⟨r,x,rfl⟩
 . exact⟨Af,Af⟩
 . rw[List.concat_eq_append,List.foldl_append]
   exact FF _ _
def Sd(l:Ab)(j:Nat)(h:j<l.length):Fs (l.take (j+1))=OV (Fs (l.take j)) (l.getD j 0):=by
 unfold Fs;rw[BI h,List.foldl_append];simp[h]
def rl(j:Nat):(256:Int) ^ j=2 ^ (8*j):=by rw[Int.pow_mul];rfl
def DI(l:Ab):Ab:=l ++ AI (252-l.length) 0
def BV(l:Ab):Ab:=DI l ++ B8 (Fs (DI l)) 4
def EN(l:Ab)(h:l.length<=252):(DI l).length=252:=by simp[DI];omega
def Dp(l:Ab)(h:l.length<=252):(BV l).length=256:=by rw[BV,AO,EN l h,Bp]
def Fy(l:Ab):Prop:=l.length=256/\Cs l 252 4=Fs (l.take 252)
def Ke(n:Int)(k:Nat)(h:0<=n):Z2 (B8 n k)=n%256 ^ k:=by
 induction k with
 |zero=>simp[Hn,Z2,Int.emod_one]
 |succ k ih=>
  rw[Hl,jD,ih,Bp,<- rl,Int.pow_succ];have a:(0:Int)<256 ^ k:=by have:=LK k;omega
  generalize (256:Int) ^ k=p at*
  have i:=Int.mul_ediv_add_emod n p;have b:=Int.mul_ediv_add_emod (n / p) 256;have j:=Int.emod_nonneg n (show p≠0 from Aa);have l:=Int.emod_lt_of_pos n a;have c:=Int.emod_nonneg (n / p) (show(256:Int)≠0 from Af);have m:=Int.emod_lt_of_pos (n / p) (show(0:Int)<256 from Af);have d:n=p*256*(n / p / 256)+(n%p+n / p%256*p):=by
   have e:p*(n / p)=p*(256*(n / p / 256)+n / p%256):=(by rw[b]);rw[Int.mul_add,<- Int.mul_assoc] at e;rw[Int.mul_comm (n / p%256) p];omega
  have f:n%p+n / p%256*p<p*256:=by
   have:n / p%256*p<=255*p:=Int.mul_le_mul_of_nonneg_right Aa Aa;omega
  have g:0<=n%p+n / p%256*p:=by
   have:=Int.mul_nonneg c (Int.le_of_lt a);omega
  generalize hr:n%p+n / p%256*p=r at*
  conv=>rhs;rw[d]
  rw[Int.mul_add_emod_self_left];exact(DV g f).symm
def kJ(l:Ab)(n:Int)(k:Nat)(h:0<=n):Cs (l ++ B8 n k) l.length k=n%256 ^ k:=by
 unfold Cs;rw[List.drop_left,A2 (by rw[Bp];exact AE _),Ke n k h]
def Ji(l:Ab)(c:l.length<=252):Fy (BV l):=by
 have b:=EN l c;have a:=FR (DI l);refine⟨Dp l c,?_⟩;have d:(BV l).take 252=DI l:=by rw[BV,<- b,DC];rfl
 rw[d];have:Cs (BV l) 252 4=Fs (DI l)%256 ^ 4:=by
  have:=kJ (DI l) (Fs (DI l)) 4 a.1;rw[b] at this;exact this
 rw[this];exact DV a.1 a.2
end
section
open Go.RowKit Go.ChangeShapes Go.WideShapes
def Je{k:IntKind}{a b:Int}(h:a=b):Ending.returned (Y k a)=W (Y k b):=by rw[h]
def Dl{a b:Bool}(h:a=b):Ending.returned (AY a)=W (AY b):=by rw[h]
def Bd{B:Nat}{a w:Z}(h:AB B a w)(n:Nat):AB B a (w.drewN n):=⟨h.os,h.tape,h.output,h.size,h.block⟩
def AF(w:Z)(o:Obj):AB w.heap.size w (w.alloc o):=(AP _ _).alloc (AE _) _
def DN{P:Program}{f:FuncId}{args:Array A}{w:Z}{n:Nat}{v:A}
 (h:I P f args (w.drewN n) fun e w'=>e=W v/\w.drewN n=w'):I P f args (w.drewN n) fun e a=>e=W v/\∃ m,a=w.drewN m:=
 I.quiet_of_same (h.mono fun _ _ ⟨he,b⟩=>⟨he,b.symm⟩)
def Fv(l:Ab):Prop:=∀ j,0<=l.getD j 0/\l.getD j 0<=255
def EX:Fv []:=fun j=>Ai
def CV{l:Ab}(h:∀ x∈l,0<=x/\x<=255):Fv l:=fun j=>by
 by_cases a:j<l.length
 . have:l.getD j 0∈l:=by simp[a]
   exact h _ this
 . rw[Az,Bf Aa];exact⟨Af,Af⟩
def Da{l:Ab}(h:Fv l):∀ x∈l,0<=x/\x<=255:=fun x b=>by
 obtain⟨j,a,rfl⟩:=CC b;have:=h j
 simpa [a] using this
def DQ{a b:Ab}(c:Fv a)(hb:Fv b):Fv (a ++ b):=
 CV fun x d=>(BU.1 d).elim (Da c x) (Da hb x)
def Db(n:Nat):Fv (AI n 0):=CV fun x a=>by rw[B6 a];decide
def En{l:Ab}(h:Fv l)(n:Nat):Fv (l.take n):=CV fun x a=>Da h x (DE a)
def L8{l:Ab}(h:Fv l)(n:Nat):Fv (l.drop n):=CV fun x a=>Da h x (List.mem_of_mem_drop a)
def BSl(w:Z)(v:A)(l:Ab):Prop:=
 Fv l/\((v=Aw T 0 0/\l=[])\/∃ a b,v=Aw (U a) l.length b/\l.length<=b/\∀ j,j<l.length->a.block<w.heap.size/\a.spot=T/\w.cell? ⟨a.block,a.off+j,T⟩=U (Y .u8 (l.getD j 0)))
def Le(w:Z):BSl w (Aw T 0 0) []:=⟨EX,A4 ⟨rfl,rfl⟩⟩
def BSl.drewN{w:Z}{v:A}{l:Ab}(h:BSl w v l)(n:Nat):BSl (w.drewN n) v l:=h
def BSl.keep{w w':Z}{v:A}{l:Ab}(h:BSl w v l)(m:w.heap.size<=w'.heap.size)(hb:∀ p:Addr,p.block<w.heap.size->w'.cell? p=w.cell? p):BSl w' v l:=by
 refine⟨h.1,?_⟩;rcases h.2 with h| ⟨a,b,n,d,i⟩
 . exact A4 h
 . refine A8 ⟨a,b,n,d,fun j k=>?_⟩
   obtain⟨c,f,g⟩:=i j k;exact⟨AL c m,f,by rw[hb _ (by exact c),g]⟩
def BSl.below{w w':Z}{v:A}{l:Ab}(h:BSl w v l)(hb:AB w.heap.size w w'):BSl w' v l:=
 h.keep hb.size fun _ a=>hb.cell a
def BSl.shape{w:Z}{v:A}{l:Ab}(h:BSl w v l):∃ f cap,v=Aw f l.length cap/\l.length<=cap:=by
 rcases h.2 with⟨b,c⟩| ⟨a,cap,b,d,_⟩
 . exact⟨T,0,by rw[b,c];rfl,by rw[c];exact AE _⟩
 . exact⟨U a,cap,b,d⟩
def OB(w:Z)(B:Nat)(v:A)(l:Ab):Prop:=Fv l/\w.ownsRow B 5 1 v l.length (l.map (Y .u8))
def OB.bsl{w:Z}{B:Nat}{v:A}{l:Ab}(h:OB w B v l):BSl w v l:=by
 refine⟨h.1,?_⟩;rcases h.2.2 with⟨c,k⟩| ⟨g,a,b,c,p,d,f,n,o,m⟩
 . exact A4 ⟨c,A3 k⟩
 . refine A8 ⟨_,a,c,f,fun j i=>⟨(Au.1 d).1,rfl,?_⟩⟩
   show w.cell? ⟨g,0+j,T⟩=_
   rw[BC,AD _ _ _ _ _ _ d];have:(b.toList.take (l.length*1))[j]? =(l.map (Y .u8))[j]? :=(by rw[m]);rw[Bb,AG Aa] at this
   simpa [i] using this
def OB.more{w:Z}{B B':Nat}{v:A}{l:Ab}(h:OB w B v l)(c:B'<=B):OB w B' v l:=by
 refine⟨h.1,h.2.1,?_⟩;rcases h.2.2 with h| ⟨g,a,b,f,d,r⟩
 . exact A4 h
 . exact A8 ⟨g,a,b,f,AU c d,r⟩
def OB.below{w w':Z}{B:Nat}{v:A}{l:Ab}(h:OB w B v l)(hb:AB w.heap.size w w'):OB w' B v l:=by
 refine⟨h.1,h.2.1,?_⟩;rcases h.2.2 with h| ⟨g,a,b,f,d,c,r⟩
 . exact A4 h
 . exact A8 ⟨g,a,b,f,d,by rw[hb.block g (Au.1 c).1];exact c,r⟩
def J8(w:Z)(l:Ab)(e:Ending)(w':Z):Prop:=
 ∃ v,e=W v/\OB w' w.heap.size v l/\AB w.heap.size w w'
def IA:(E.info? 5).map (fun i=>(i.zero,i.size,i.bytes))=U (U (Y .u8 0),1,1):=Ac
def Z6(n:Nat):madeCells (Y .u8 0).cells n=AW n (Y .u8 0):=by
 apply Array.ext';rw[show(Y .u8 0).cells=#[Y .u8 0] from rfl,toList_madeCells_one];simp
def DA(w:Z){b:Array BK}{rest:List BK}{o:BK}{a:Act}{Q:Exit->Act->Z->Prop}
 (u:o.guard=T) (l c:Operand) (g:o.op=Op.makeSlice 77 l c) (L C:Int) (n m:Nat) (v:a.eval l=Y V L) (t:a.eval c=Y V C) (s:L=n) (q:C=m) (x:n<=m) (y:m<=200000000000000)
 (r:Cj E b Q rest (a.put o.dst (Aw (U ⟨w.heap.size,0,T⟩) n m)) (w.alloc (Ay (AW m (Y .u8 0)) 5))):
 Cj E b Q (o :: rest) a w:=by
 refine CH u fun K d=>?_
 obtain⟨i,h,j,k,p⟩:=Bs IA;subst s;subst q;have f:=run_make (P:=E) w 77 5 i (Y .u8 0) underlying77 h j V V n m Aa Aa (by rw[p];omega) Aa;unfold BK.wp;simp only[Cf,k,Nat.mul_one,Z6] at f;simp[execOp,g,v,t,f,Result.andThen];exact d _ _ r
def CT(w:Z){b:Array BK}{rest:List BK}{o:BK}{a:Act}{Q:Exit->Act->Z->Prop}
 (i:o.guard=T) (l c:Operand) (f:o.op=Op.makeSlice 77 l c) (C:Int) (n:Nat) (j:a.eval l=Y V C) (h:a.eval c=Y V C) (d:C=n) (k:n<=200000000000000)
 (g:Cj E b Q rest (a.put o.dst (Aw (U ⟨w.heap.size,0,T⟩) n n)) (w.alloc (Ay (AW n (Y .u8 0)) 5))):
 Cj E b Q (o :: rest) a w:=DA w i l c f C C n n j h d d (AE _) k g
def Wrote(w w':Z)(g:Nat):Prop:=w'.os=w.os/\w'.tape=w.tape/\w'.output=w.output/\w'.heap.size=w.heap.size/\∀ k,k≠g->w'.heap[k]? =w.heap[k]?
def Wrote.refl(w:Z)(g:Nat):Wrote w w g:=⟨rfl,rfl,rfl,rfl,fun _ _=>rfl⟩
def Wrote.setCell(w:Z)(g o:Nat)(u:A):Wrote w (w.setCell ⟨g,o,T⟩ u) g:=
 ⟨rfl,rfl,rfl,by simp[Z.setCell],fun k a=>AZ w ⟨g,o,T⟩ k u a⟩
def Wrote.below{w w':Z}{g B:Nat}(h:Wrote w w' g)(a:B<=g):AB B w w':=
 ⟨h.1,h.2.1,h.2.2.1,by rw[h.2.2.2.1];exact AE _,fun k b=>h.2.2.2.2 k Aa⟩
def Wrote.setRow(w:Z)(g:Nat)(cs:Array A):Wrote w (w.setRow g cs) g:=
 ⟨rfl,rfl,rfl,by simp[Z.setRow],fun k a=>setRow_other w g k cs a⟩
def Dc{P:Program}{w:Z}{m:Array BK}{rest:List BK}{o:BK}{a:Act}{Q:Exit->Act->Z->Prop}(z:o.guard=T)(d s:Operand)(q x:Cn)
 (C:o.op=.call { callee:=.builtin .copy,args:=#[d,s],argTypes:=#[q,x] }) (c:Cn) (hu:P.underlying q=U (.slice c)) (B:(P.info? c).map (·.size)=U 1)
 (r y:Option Addr) (b i f k:Nat) (hd:a.eval d=Aw r b i) (D:a.eval s=Aw y f k)
 (g off:Nat) (cur:List A) (t:Cn) (u:w.heap[g]? =U (Ay cur.toArray t (0,0))) (cs:List A) (n:Nat) (J:cs.length=n) (l:n=Nat.min f b)
 (F:0<cs.length->r=U ⟨g,off,T⟩/\∃ p,y=U p/\∀ j v,cs[j]? =U v->w.cell? (p.add j)=U v)
 (E:off+cs.length<=cur.length) (I:∀ v∈cs,v.oneCell'=AQ)
 (h:∀ w',Hid (w'.heap[g]? =U (Ay (splice cur off cs).toArray t (0,0)))->Wrote w w' g->Cj P m Q rest (a.put o.dst (goInt n)) w'):
 Cj P m Q (o :: rest) a w:=by
 subst J;by_cases H:cs.length=0
 . obtain rfl:cs=[]:=A3 H
   refine wpList_copy_nothing z d s q x C c hu B r y b i f k hd D (by simpa using l.symm) ?_;exact h w (show _=_ by simpa [splice] using u) (Wrote.refl _ _)
 . obtain⟨rfl,p,rfl,G⟩:=F Aa
   refine wpList_copy_own z d s q x C c hu B g off b i p f k hd D cur.toArray t u cs l G (by simpa using E) I ?_;exact h _ (show _=_ by simpa [splice] using CJ w g _ _ t _ u) (Wrote.setRow _ _ _)
def EK{α:Type}(L cs:List α)(h:cs.length=L.length):splice L 0 cs=cs:=by
 simp[splice,h]
def Fm{w w1:Z}{f:Option Addr}{N cap:Nat}{l:Ab}(y:BSl w (Aw f N cap) l)(hb:∀ p:Addr,p.block<w.heap.size->w1.cell? p=w.cell? p)(n:Nat):
 0<((l.take n).map (Y .u8)).length->∃ k,f=U k/\∀ j v,((l.take n).map (Y .u8))[j]? =U v->w1.cell? (k.add j)=U v:=by
 intro h;rcases y.2 with⟨_,x⟩| ⟨a,c,o,_,u⟩
 . rw[x] at h;simp at h
 . obtain⟨rfl,_⟩:f=U a/\N=l.length:=by simpa using ⟨(Be o).1,(Be o).2.1⟩
   refine⟨a,rfl,fun j v m=>?_⟩;have i:j<(l.take n).length:=by simpa using (Bo.1 m).1
   have q:j<l.length:=(by rw[AV] at i;omega);have g:j<n:=(by rw[AV] at i;omega);obtain⟨r,s,t⟩:=u j q;obtain⟨b,z,d⟩:=a;obtain rfl:d=T:=s;rw[Cd,hb _ (by exact r),t,<- m];simp[q,g]
def OB.of_heap{w:Z}{B g cap:Nat}{l:Ab}{rest:List A}(hb:Fv l)(b:B<=g)
 (c:w.heap[g]? =U (Ay ((l.map (Y .u8)) ++ rest).toArray 5 (0,0))) (a:cap=l.length+rest.length) (d:cap<=maxLen):
 OB w B (Aw (U ⟨g,0,T⟩) l.length cap) l:=by
 refine⟨hb,Ai,A8 ⟨g,cap,_,rfl,b,c,Aa,d,by simp[a],?_⟩⟩;simp
def Qv(w:Z):OB (w.alloc (Ay #[] 5)) w.heap.size (Aw (U ⟨w.heap.size,0,T⟩) 0 0) []:=
 OB.of_heap (l:=[]) (rest:=[]) EX (AE _) (AC w _) rfl Af
def B0(w:Z){g:Array BK}{rest:List BK}{o:BK}{a:Act}{Q:Exit->Act->Z->Prop}(y:o.guard=T)(s x:Operand)
 (H:o.op=.call { callee:=.builtin .append,args:=#[s,x],argTypes:=#[77,77] })
 (B:Nat) (v:A) (l:Ab) (I:a.eval s=v) (b:OB w B v l) (t:Z) (u:A) (m:Ab) (J:a.eval x=u) (f:BSl t u m)
 (r:∀ p:Addr,p.block<t.heap.size->w.cell? p=t.cell? p) (G:l.length+m.length<=140737488355328) (D:B<=w.heap.size)
 (h:∀ v' w',OB w' B v' (l ++ m)->AB B w w'->w.grownBy w' v.ownBlock->Cj E g Q rest (a.put o.dst v') w'):Cj E g Q (o :: rest) a w:=by
 obtain⟨i,z,O,P,R⟩:=Bs IA;obtain⟨L,d,rfl,CD⟩:=f.shape;have q:=DQ b.1 f.1;have M:(l ++ m).length=l.length+m.length:=AO;have N:(l ++ m).map (Y .u8)=l.map (Y .u8) ++ m.map (Y .u8):=Cw;cases L with
 |none=>
  have X:m=[]:=by
   rcases f.2 with⟨_,W⟩| ⟨_,_,c,_⟩
   . exact W
   . simp at c
  subst X;have rP:d=0:=by
   rcases f.2 with⟨c,_⟩| ⟨_,_,c,_⟩
   . simp at c;exact c
   . simp at c
  subst rP;refine wpList_append_own_none y s x 77 H B 5 i 1 underlying77 z v l.length _ I b.2 (by simpa using J) ?_;exact h v w (by simpa using b) (AP _ _) (Z.grownBy.refl w _)
 |some ad=>
  have K:∀ j v,(m.map (Y .u8))[j]? =U v->w.cell? (ad.add j)=U v:=by
   intro j v F;have MU:j<m.length:=by simpa using (Bo.1 F).1
   obtain⟨n,he,V⟩:=Fm f r m.length Ak;obtain rfl:ad=n:=by simpa using he
   exact V j v (by simpa using F)
  refine FU w y s x 77 H B 5 i (Y .u8 0) 1 1 underlying77 z O P R rfl Af v l.length _ I b.2 ad m.length d _ J Ai K (ints_oneCell _ _) (by simp only[maxLen];omega) Aa D fun v' w' S C _=>?_
  refine h v' w' ⟨q,by rw[M,N];exact S⟩ ((AP _ _).grown C D fun k r=>(b.2.lt k r).1) C
def Y1(x:Int)(h:0<=x/\x<=255):Fv [x]:=CV fun y a=>by simp at a;subst a;exact h
def FM(w1:Z)(x:Int){f:Array BK}{rest:List BK}{o:BK}{a:Act}{Q:Exit->Act->Z->Prop}(i:o.guard=T)(s y:Operand)
 (r:o.op=.call { callee:=.builtin .append,args:=#[s,y],argTypes:=#[77,77] })
 (B:Nat) (v:A) (l:Ab) (u:a.eval s=v) (d:OB w1 B v l) (w:0<=x/\x<=255) (z:a.eval y=Aw (U ⟨w1.heap.size,0,T⟩) 1 1)
 (c:l.length+1<=140737488355328) (p:B<=w1.heap.size)
 (h:∀ v' w',OB w' B v' (l ++ [x])->AB B w1 w'->Cj E f Q rest (a.put o.dst v') w'):Cj E f Q (o :: rest) a (w1.alloc (Ay #[Y .u8 x] 5)):=by
 have b:AB w1.heap.size w1 (w1.alloc (Ay #[Y .u8 x] 5)):=(AP _ _).alloc (AE _) _;have k:(w1.alloc (Ay #[Y .u8 x] 5)).heap[w1.heap.size]? =U (Ay #[Y .u8 x] 5 (0,0)):=AC w1 _;have t:BSl (w1.alloc (Ay #[Y .u8 x] 5)) (Aw (U ⟨w1.heap.size,0,T⟩) 1 1) [x]:=by
  refine⟨Y1 x w,A8 ⟨_,1,rfl,AE _,fun j q=>?_⟩⟩;have g:j=0:=by simpa using q
  subst g;refine⟨Ai,rfl,?_⟩;rw[AD _ _ _ _ _ _ k];rfl
 refine B0 _ i s y r B v l u (d.below b) _ _ [x] z t (fun _ _=>rfl) (by simpa using c) Ak fun v' w' m n _=>?_
 exact h v' w' m ((b.mono p).trans n)
def Hw{w:Z}{v:A}{l:Ab}(k:BSl w v l):(convert 77 9 v).run E w=.ok (.string (B7 l)) w:=by
 rcases k.2 with⟨rfl,rfl⟩| ⟨⟨b,d,c⟩,a,rfl,_,f⟩
 . exact run_convert_bytes_nil w 77 5 underlying77 underlying5 0 0 _ underlying9
 . by_cases h:l.length=0
   . obtain rfl:l=[]:=A3 h
     rw[run_convert_bytes_string w 77 9 5 _ _ a underlying77 underlying5 underlying9,
      run_bytesToString w _ _ a [] (by simp[loadCells,loadCellsFrom])]
     rfl
   . obtain⟨_,g,_⟩:=f 0 Aa
     obtain rfl:c=T:=g;exact run_convert_bytes_arg w 77 5 underlying77 underlying5 b d l.length a l rfl (fun i j=>(f i j).2.2) _ underlying9
end
section
namespace BM
def D6(x:Int)(k:Nat):Bool:=decide (x / 2 ^ k%2=1)
structure Rep (l:Ab) (L:List Bool):Prop where
 len:l.length=(L.length+7) / 8
 byte:∀ j,0<=l.getD j 0/\l.getD j 0<=255
 bit:∀ j,D6 (l.getD (j / 8) 0) (j%8)=L.getD j X
def getB(L:List Bool)(i:Int):Bool:=decide (0<=i) && L.getD i.toNat X
def VL(L:List Bool)(i:Nat):getB L i=L.getD i X:=by simp[getB]
def jJ(L:List Bool)(i:Int)(h:¬ (0<=i/\i<L.length)):getB L i=X:=by
 unfold getB;by_cases a:0<=i
 . have:L.length<=i.toNat:=by omega
   simp[Bf this]
 . simp[a]
def QN(k:Nat):D6 0 k=X:=by simp[D6]
def Z3(n:Nat):Rep (AI ((n+7) / 8) 0) (AI n X):=by
 have e:∀ j,(AI ((n+7) / 8) (0:Int)).getD j 0=0:=fun j=>by
  rw[Az,CA];split <;> rfl
 refine⟨Ai,fun j=>by rw[e];decide,fun j=>?_⟩;rw[e,QN,Az,CA];split <;> rfl
def In(x y:Int)(k:Nat)(h:D6 x k=D6 y k):x / 2 ^ k%2=y / 2 ^ k%2:=by
 simp only[D6,decide_eq_decide] at h;generalize x / 2 ^ k=p at*
 generalize y / 2 ^ k=q at*
 omega
def Wn(x:Int)(a:0<=x)(b:x<=255):
 x=x / 2 ^ 0%2+2*(x / 2 ^ 1%2)+4*(x / 2 ^ 2%2)+8*(x / 2 ^ 3%2)+16*(x / 2 ^ 4%2)+32*(x / 2 ^ 5%2)+64*(x / 2 ^ 6%2)+128*(x / 2 ^ 7%2):=by
 omega
def iV(x y:Int)(a:0<=x/\x<=255)(b:0<=y/\y<=255)(h:∀ k,k<8->D6 x k=D6 y k):x=y:=by
 rw[Wn x a.1 a.2,Wn y b.1 b.2]
 rw[In x y 0 (h 0 Aa),In x y 1 (h 1 Aa),In x y 2 (h 2 Aa),In x y 3 (h 3 Aa),
  In x y 4 (h 4 Aa),In x y 5 (h 5 Aa),In x y 6 (h 6 Aa),In x y 7 (h 7 Aa)]
def SK{l m:Ab}{L:List Bool}(c:Rep l L)(d:Rep m L):l=m:=by
 apply Bt (by rw[c.len,d.len]);intro j h i;have f:l[j]=l.getD j 0:=by simp[h]
 have g:m[j]=m.getD j 0:=by simp[i]
 rw[f,g];refine iV _ _ (c.byte j) (d.byte j) fun k n=>?_
 have a:=c.bit (8*j+k);have b:=d.bit (8*j+k);rw[show(8*j+k) / 8=j from Aa,show(8*j+k)%8=k from Aa] at a b;rw[a,b]
def Ty(x:Int)(k:Nat)(on:Bool)(y:Int)(i:k<8)(h:y=if on then (if D6 x k then x else x+2 ^ k) else (if D6 x k then x-2 ^ k else x))(l:0<=x/\x<=255):
 (0<=y/\y<=255)/\∀ j,j<8->D6 y j=if j=k then on else D6 x j:=by
 have f:∀ (b:Bool),D6 x k=b->(0<=y/\y<=255)/\∀ j,j<8->D6 y j=if j=k then on else D6 x j:=by
  intro b c;rw[c] at h;have a:k=0\/k=1\/k=2\/k=3\/k=4\/k=5\/k=6\/k=7:=Aa;refine⟨?_,fun j g=>?_⟩
  . rcases a with rfl|rfl|rfl|rfl|rfl|rfl|rfl|rfl <;> cases b <;> cases on <;>
     simp[D6] at c h <;> omega
  . have d:j=0\/j=1\/j=2\/j=3\/j=4\/j=5\/j=6\/j=7:=by omega
    rcases a with rfl|rfl|rfl|rfl|rfl|rfl|rfl|rfl <;> cases b <;> cases on <;>
     simp[D6] at c h <;> rcases d with rfl|rfl|rfl|rfl|rfl|rfl|rfl|rfl <;> simp[D6,h] <;> omega
 exact f _ rfl
def getD_set{α:Type}(l:List α)(i j:Nat)(v d:α)(hi:i<l.length):(l.set i v).getD j d=if j=i then v else l.getD j d:=by
 rw[Az,List.getElem?_set,Az];by_cases h:i=j
 . subst h;simp[hi]
 . rw[AJ h,AJ (fun e=>h e.symm)]
def ah{l:Ab}{L:List Bool}(h:Rep l L)(i:Nat)(on:Bool)(hi:i<L.length)(y:Int)
 (g:y=if on then (if D6 (l.getD (i / 8) 0) (i%8) then l.getD (i / 8) 0 else l.getD (i / 8) 0+2 ^ (i%8)) else (if D6 (l.getD (i / 8) 0) (i%8) then l.getD (i / 8) 0-2 ^ (i%8) else l.getD (i / 8) 0)):
 Rep (l.set (i / 8) y) (L.set i on):=by
 have b:=h.len;have a:i / 8<l.length:=Aa;obtain⟨d,f⟩:=Ty (l.getD (i / 8) 0) (i%8) on y (JE _ Aa) g (h.byte _);refine⟨by simp[b],fun j=>?_,fun j=>?_⟩
 . rw[getD_set _ _ _ _ _ a];split
   . exact d
   . exact h.byte j
 . rw[getD_set _ _ _ _ _ a,getD_set _ _ _ _ _ hi]
   by_cases c:j / 8=i / 8
   . rw[AG c,f _ (JE _ Aa)]
     by_cases e:j=i
     . subst e;simp
     . rw[AJ Aa,AJ e,<- h.bit j,c]
   . rw[AJ c,AJ (fun e=>c (by rw[e])),h.bit j]
def EU(L:List Bool)(i:Nat):Int:=
 match (L.drop i).findIdx? (fun b=>!b) with
 |some k=>(i+k:Nat)
 |none=> -1
def Om{L:List Bool}{i j:Nat}(c:i<=j)(d:j<L.length)(f:L.getD j X=X)(hb:∀ k,i<=k->k<j->L.getD k X=AQ):EU L i=j:=by
 have e:(L.drop i).findIdx? (fun b=>!b)=U (j-i):=by
  rw[List.findIdx?_eq_some_iff_getElem];refine⟨Ak,?_,fun k g=>?_⟩
  . have:L[j]=X:=by simpa [d] using f
    simp only[List.getElem_drop,show i+(j-i)=j from Aa,this];rfl
  . have a:i+k<L.length:=by omega
    have:L[i+k]=AQ:=by simpa [a] using hb (i+k) Aa Aa
    simp only[List.getElem_drop,this];decide
 rw[EU,e];show((i+(j-i):Nat):Int)=j;congr 1;omega
def Ok{L:List Bool}{i:Nat}(hb:∀ k,i<=k->k<L.length->L.getD k X=AQ):EU L i= -1:=by
 have e:(L.drop i).findIdx? (fun b=>!b)=T:=by
  rw[List.findIdx?_eq_none_iff];intro x d;obtain⟨k,c,rfl⟩:=List.mem_iff_getElem.1 d;simp only[By] at c;have a:i+k<L.length:=Aa;have:L[i+k]=AQ:=by simpa [a] using hb (i+k) Aa a
  simp only[List.getElem_drop,this];rfl
 rw[EU,e]
def MS(L:List Bool)(i:Nat):(EU L i= -1/\∀ k,i<=k->k<L.length->L.getD k X=AQ)\/
 ∃ j:Nat,i<=j/\j<L.length/\EU L i=j/\L.getD j X=X/\∀ k,i<=k->k<j->L.getD k X=AQ:=by
 by_cases h:∃ j,i<=j/\j<L.length/\L.getD j X=X
 . obtain⟨p,q,b0,r⟩:=h
   have:∀ n j,j<=n->i<=j->j<L.length->L.getD j X=X->∃ j,i<=j/\j<L.length/\L.getD j X=X/\∀ k,i<=k->k<j->L.getD k X=AQ:=by
    intro n;induction n with
    |zero=>intro j s a b c;exact⟨j,a,b,c,fun k _ l=>Aa⟩
    |succ n ih=>
     intro j s a b c;by_cases l:∃ k,i<=k/\k<j/\L.getD k X=X
     . obtain⟨k,d,f,t⟩:=l;exact ih k Aa d Aa t
     . refine⟨j,a,b,c,fun k d f=>?_⟩
       cases g:L.getD k X
       . exact absurd ⟨k,d,f,g⟩ l
       . rfl
   obtain⟨j,a,b,c,o⟩:=this p p (AE _) q b0 r;exact A8 ⟨j,a,b,Om a b c o,c,o⟩
 . have m:∀ k,i<=k->k<L.length->L.getD k X=AQ:=fun k d f=>by
    cases g:L.getD k X
    . exact absurd ⟨k,d,f,g⟩ h
    . rfl
   exact A4 ⟨Ok m,m⟩
def JL(L:List Bool)(a:Int):Int:=
 if 0<=a/\a<L.length then (if 0<=EU L a.toNat then EU L a.toNat else EU L 0) else EU L 0
def Ec(L:List Bool):Nat:=(L.filter id).length
def Kv(L:List Bool):Ec L<=L.length:=List.length_filter_le _ _
def N5{L:List Bool}{k:Nat}(h:k<L.length):Ec (L.take (k+1))=Ec (L.take k)+if L.getD k X then 1 else 0:=by
 rw[BI h,Ec,List.filter_append,AO,Ec];simp only[Az,AX h,Option.getD_some];cases L[k] <;> rfl
def Kg(L:List Bool)(k:Nat):Ec (L.take k)<=k:=AU (Kv _) Ak
end BM
end
section
open Go.RowKit BM
def bG(n:Int)(w:Z)(_h0:0<=n)(_h1:n<=4096):
 I E 265 #[Y V n] w fun e w'=>e=W (Y V ((n+7) / 8))/\w=w':=by
 go_enter func265,ntmps265;go_wp2;go_ret;exact⟨rfl,rfl⟩
def PQ(n:Int)(w:Z)(_h0:0<=n)(_h1:n<=4096):
 I E 266 #[Y V n] w fun e w'=>e=W (Y .u64 (n%8))/\w=w':=by
 go_enter func266,ntmps266;go_wp2;go_ret;exact⟨rfl,rfl⟩
def WD(p:Nat)(n i:Int)(w:Z)(b:w.cell? ⟨p,0,T⟩=U (Y V n)):
 I E 257 #[Ax (U ⟨p,0,T⟩),Y V i] w fun e w'=>e=W (AY (decide (0<=i) && decide (i<n)))/\w=w':=by
 by_cases a:0<=i
 . go_enter func257,ntmps257
   go_wp2;go_ret;exact⟨by simp[a],rfl⟩
 . go_enter func257,ntmps257
   go_wp2;go_ret
   exact⟨by have h:decide (0<=i)=X:=by simpa using a
            rw[h];rfl,rfl⟩
def iL(p:Nat)(n:Int)(w:Z)(a:w.cell? ⟨p,0,T⟩=U (Y V n)):
 I E 255 #[Ax (U ⟨p,0,T⟩)] w fun e w'=>e=W (Y V n)/\w=w':=by
 go_enter func255,ntmps255;go_wp2;go_ret;exact⟨rfl,rfl⟩
def OU(p:Nat)(n i:Int)(w:Z)(c:w.cell? ⟨p,0,T⟩=U (Y V n))(a:0<=i)(b:i<n):
 I E 257 #[Ax (U ⟨p,0,T⟩),Y V i] w fun e w'=>e=W (AY AQ)/\w=w':=
 (WD p n i w c).mono fun e w' ⟨he,d⟩=>⟨by rw[he];simp[a,b],d⟩
def QQ(p:Nat)(n i:Int)(w:Z)(a:w.cell? ⟨p,0,T⟩=U (Y V n))(h:¬ (0<=i/\i<n)):
 I E 257 #[Ax (U ⟨p,0,T⟩),Y V i] w fun e w'=>e=W (AY X)/\w=w':=
 (WD p n i w a).mono fun e w' ⟨he,b⟩=>⟨by rw[he];simp;omega,b⟩
def BRow(w:Z)(p g:Nat)(L:List Bool):Prop:=
 L.length<=4096/\∃ l,Rep l L/\w.heap[p]? =U (Ay #[Y V L.length,Aw (U ⟨g,0,T⟩) l.length l.length] 342 (0,0))/\w.heap[g]? =U (Ay (l.map (Y .u8)).toArray 5 (0,0))
def BRow.drewN{w:Z}{p g:Nat}{L:List Bool}(h:BRow w p g L)(n:Nat):BRow (w.drewN n) p g L:=h
def BRow.of_heap{w w':Z}{p g:Nat}{L:List Bool}(h:BRow w p g L)(hp:w'.heap[p]? =w.heap[p]?)(f:w'.heap[g]? =w.heap[g]?):BRow w' p g L:=by
 obtain⟨a,l,b,c,d⟩:=h;exact⟨a,l,b,by rw[hp,c],by rw[f,d]⟩
def BRow.lt{w:Z}{p g:Nat}{L:List Bool}(h:BRow w p g L):p<w.heap.size/\g<w.heap.size:=by
 obtain⟨_,l,_,a,b⟩:=h;exact⟨(Au.1 a).1,(Au.1 b).1⟩
def BRow.below{w w':Z}{p g B:Nat}{L:List Bool}(h:BRow w p g L)(hb:AB B w w')(a:p<B)(b:g<B):BRow w' p g L:=
 h.of_heap (hb.block p a) (hb.block g b)
def wx(x:Int)(a:0<=x)(b:x<=255)(k:Nat):(bits BinOp.and IntKind.u8 (x / 2 ^ k) 1==1)=D6 x k:=by
 have c:0<=x / 2 ^ k:=Int.ediv_nonneg a (by exact Int.le_of_lt (Int.pow_pos Af));have d:x / 2 ^ k<=255:=Int.le_trans (Int.ediv_le_self _ a) b;generalize hy:x / 2 ^ k=y at*
 rw[u8_and y 1 c Aa Af Af];unfold D6;rw[hy];obtain⟨n,rfl⟩:∃ n:Nat,y=n:=⟨y.toNat,Aa⟩;simp only[Cf,show(1:Int).toNat=1 from rfl,Nat.and_one_is_mod];rw[Bool.eq_iff_iff];simp
def YX(p g len:Nat)(n x:Int)(i:Nat)(w:Z)(b:n<=4096)(hi:(i:Int)<n)(c:i / 8<len)
 (a:w.cell? ⟨p,0,T⟩=U (Y V n)) (d:w.cell? ⟨p,1,T⟩=U (Aw (U ⟨g,0,T⟩) len len))
 (f:w.cell? ⟨g,i / 8,T⟩=U (Y .u8 x)) (_hx0:0<=x) (_hx1:x<=255):
 I E 256 #[Ax (U ⟨p,0,T⟩),Y V i] w fun e w'=>e=W (AY (bits BinOp.and IntKind.u8 (x / 2 ^ (i%8)) 1==1))/\∃ m,w'=w.drewN m:=by
 have h:(i:Int) / 8<len:=Aa;go_enter func256,ntmps256;go_wp2
 go_quiet (first|(go_at_call 257;refine DN (OU p n i _ (by simpa using a) Aa hi))|(go_at_call 266;refine DN (PQ i _ Aa Aa)))
 go_wp2;go_ret;exact⟨rfl,_,rfl⟩
def iG(p:Nat)(n i:Int)(w:Z)(hi:¬ (0<=i/\i<n))(a:w.cell? ⟨p,0,T⟩=U (Y V n)):
 I E 256 #[Ax (U ⟨p,0,T⟩),Y V i] w fun e w'=>e=W (AY X)/\∃ m,w'=w.drewN m:=by
 go_enter func256,ntmps256;go_wp2;go_quiet ((go_at_call 257;refine DN (QQ p n i _ (by simpa using a) hi)))
 go_wp2;go_ret;exact⟨rfl,_,rfl⟩
def BRow.cells{w:Z}{p g:Nat}{L:List Bool}(h:BRow w p g L):∃ l,Rep l L/\w.cell? ⟨p,0,T⟩=U (Y V L.length)/\
 w.cell? ⟨p,1,T⟩=U (Aw (U ⟨g,0,T⟩) l.length l.length)/\(∀ j,j<l.length->w.cell? ⟨g,j,T⟩=U (Y .u8 (l.getD j 0)))/\
 (∀ j,w.frozen? ⟨g,j,T⟩=X)/\w.heap[g]? =U (Ay (l.map (Y .u8)).toArray 5 (0,0)):=by
 obtain⟨_,l,c,b,a⟩:=h;refine⟨l,c,by rw[AD _ _ _ _ _ _ b];rfl,by rw[AD _ _ _ _ _ _ b];rfl,fun j d=>?_,fun j=>frozen_of_row _ _ _ _ _ a,a⟩;rw[AD _ _ _ _ _ _ a];simp[d]
def iI{w:Z}{p g:Nat}{L:List Bool}(h:BRow w p g L)(i:Int):
 I E 256 #[Ax (U ⟨p,0,T⟩),Y V i] w fun e w'=>e=W (AY (getB L i))/\∃ m,w'=w.drewN m:=by
 have q:=h.1;obtain⟨l,c,d,f,n,_,_⟩:=h.cells;by_cases b:0<=i/\i<L.length
 . obtain⟨k,rfl⟩:∃ k:Nat,i=k:=⟨i.toNat,Aa⟩
   have o:=c.len;have a:=c.byte (k / 8);refine(YX p g l.length L.length (l.getD (k / 8) 0) k w Aa b.2 Aa d f (n _ Aa) a.1 a.2).mono fun e w' ⟨he,j⟩=>⟨?_,j⟩
   rw[he,wx _ a.1 a.2,c.bit,VL]
 . rw[jJ L i b]
   exact iG p _ i w b d
def VZ{w:Z}{p g:Nat}{L:List Bool}(h:BRow w p g L):
 I E 255 #[Ax (U ⟨p,0,T⟩)] w fun e w'=>e=W (Y V L.length)/\w=w':=by
 obtain⟨l,b,a,c,d,_,_⟩:=h.cells;exact iL p _ w a
def Nu(n:Int)(k N:Nat)(w:Z)(d:n=k)(b:k<=4096)(c:N=(k+7) / 8):
 I E 265 #[Y V n] w fun e w'=>e=W (Y V N)/\w=w':=
 (bG n w Aa Aa).mono fun e w' ⟨he,a⟩=>⟨by rw[he,show(n+7) / 8=((N:Nat):Int) from Aa],a⟩
def aB(n:Int)(k:Nat)(g:k<=4096)(w:Z)(b:if n<0 then k=0 else if 4096<n then k=4096 else n=k):
 I E 253 #[Y V n] w fun e w'=>e=W (Ax (U ⟨w.heap.size+1,0,T⟩))/\BRow w' (w.heap.size+1) w.heap.size (AI k X)/\AB w.heap.size w w'/\w'.heap.size=w.heap.size+2:=by
 obtain⟨N,f⟩:∃ N:Nat,N=(k+7) / 8:=⟨_,rfl⟩
 have d:∀ (c:Int) w',(c=k)->w'=(w.alloc (Ay (AW N (Y .u8 0)) 5)).alloc (Ay #[Y V c,Aw (U ⟨w.heap.size,0,T⟩) N N] 342)->
  BRow w' (w.heap.size+1) w.heap.size (AI k X)/\AB w.heap.size w w'/\w'.heap.size=w.heap.size+2:=by
  rintro c w' rfl rfl;refine⟨⟨by simpa using g,_,Z3 k,?_,?_⟩,((AP _ _).alloc (AE _) _).alloc Ai _,Ai⟩
  . rw[heap_alloc2_new];simp[f]
  . rw[heap_alloc2_old];simp[f]
 have l:N<=4096:=Aa;have h:Hid (N=(k+7) / 8):=f;clear f;by_cases i:n<0
 . rw[AG i] at b
   have a:Hid (k=0):=b;clear b;go_enter func253,ntmps253
   go_wp2_with (first|(go_at_call 265;refine Ad (Nu _ k N _ (by rw[a.out];rfl) g h.out) ?_;rintro w' rfl)|(at_make;refine CT _ rfl _ _ rfl _ N rfl rfl rfl Aa ?_))
   go_ret;exact⟨rfl,d _ _ (by first|exact a.out|(rw [a.out];rfl)) rfl⟩
 . rw[AJ i] at b
   by_cases j:4096<n
   . rw[AG j] at b
     have a:Hid (k=4096):=b;clear b;go_enter func253,ntmps253
     go_wp2_with (first|(go_at_call 265;refine Ad (Nu _ k N _ (by rw[a.out];rfl) g h.out) ?_;rintro w' rfl)|(at_make;refine CT _ rfl _ _ rfl _ N rfl rfl rfl Aa ?_))
     go_ret;exact⟨rfl,d _ _ (by first|exact a.out|(rw [a.out];rfl)) rfl⟩
   . rw[AJ j] at b
     have a:Hid (n=k):=b;clear b;go_enter func253,ntmps253
     go_wp2_with (first|(go_at_call 265;refine Ad (Nu _ k N _ a.out g h.out) ?_;rintro w' rfl)|(at_make;refine CT _ rfl _ _ rfl _ N rfl rfl rfl Aa ?_))
     go_ret;exact⟨rfl,d _ _ (by first|exact a.out|(rw [a.out];rfl)) rfl⟩
def rN:∀ k,k<8->∀ n,n<256->(n ||| 2 ^ k)=if n / 2 ^ k%2=1 then n else n+2 ^ k:=by decide +kernel
def X3:∀ k,k<8->∀ n,n<256->(n &&& (255-2 ^ k))=if n / 2 ^ k%2=1 then n-2 ^ k else n:=by decide +kernel
def RS(n k:Nat):D6 (n:Int) k=decide (n / 2 ^ k%2=1):=by
 unfold D6;have e:(n:Int) / 2 ^ k%2=((n / 2 ^ k%2:Nat):Int):=by push_cast;rfl
 rw[e];rw[decide_eq_decide];omega
def ai(k:Nat)(a:k<8):IntKind.u64.wrap (2 ^ k)%256=((2 ^ k:Nat):Int):=by
 have h:k=0\/k=1\/k=2\/k=3\/k=4\/k=5\/k=6\/k=7:=Aa;rcases h with rfl|rfl|rfl|rfl|rfl|rfl|rfl|rfl <;> decide
def Z1(k:Nat)(a:k<8):1<=2 ^ k/\2 ^ k<=128:=
 ⟨Nat.one_le_two_pow,by have:=Nat.pow_le_pow_right (n:=2) Aa (show k<=7 from Aa);simpa using this⟩
def jq(x:Int)(k:Nat)(b:k<8)(d:0<=x)(f:x<=255):bits BinOp.or IntKind.u8 x (IntKind.u64.wrap (2 ^ k)%256)=if D6 x k then x else x+2 ^ k:=by
 obtain⟨n,rfl⟩:∃ n:Nat,x=n:=⟨x.toNat,Aa⟩;have g:=Z1 k b;have c:=rN k b n Aa;rw[ai k b,u8_or_nat n (2 ^ k) Aa Aa,c,RS];by_cases a:n / 2 ^ k%2=1
 . rw[AG a,AG (by simpa using a)]
 . rw[AJ a,AJ (by simpa using a)];push_cast;rfl
def Yv(x:Int)(k:Nat)(b:k<8)(d:0<=x)(f:x<=255):bits BinOp.andNot IntKind.u8 x (IntKind.u64.wrap (2 ^ k)%256)=if D6 x k then x-2 ^ k else x:=by
 obtain⟨n,rfl⟩:∃ n:Nat,x=n:=⟨x.toNat,Aa⟩;have g:=Z1 k b;have c:=X3 k b n Aa;rw[ai k b,u8_andNot_nat n (2 ^ k) Aa Aa,c,RS];by_cases a:n / 2 ^ k%2=1
 . rw[AG a,AG (by simpa using a)]
   have:2 ^ k<=n:=by
    rcases Nat.lt_or_ge n (2 ^ k) with h|h
    . rw[Nat.div_eq_of_lt h] at a;omega
    . exact h
   rw[Int.natCast_sub this];push_cast;rfl
 . rw[AJ a,AJ (by simpa using a)]
def Yu(p g len:Nat)(n x:Int)(i:Nat)(on:Bool)(w:Z)(b:n<=4096)(hi:(i:Int)<n)(c:i / 8<len)
 (a:w.cell? ⟨p,0,T⟩=U (Y V n)) (d:w.cell? ⟨p,1,T⟩=U (Aw (U ⟨g,0,T⟩) len len))
 (f:w.cell? ⟨g,i / 8,T⟩=U (Y .u8 x)) (hf:w.frozen? ⟨g,i / 8,T⟩=X):
 I E 254 #[Ax (U ⟨p,0,T⟩),Y V i,AY on] w fun e w'=>e=W (Y V 0)/\
  w'=w.setCell ⟨g,i / 8,T⟩ (Y .u8 (if on then bits BinOp.or IntKind.u8 x (IntKind.u64.wrap (2 ^ (i%8))%256) else bits BinOp.andNot IntKind.u8 x (IntKind.u64.wrap (2 ^ (i%8))%256))):=by
 have h:(i:Int) / 8<len:=Aa;cases on
 all_goals
  go_enter func254,ntmps254
  go_wp2_with (first|(go_at_call 257;refine Ad (OU p n i _ a Aa hi) ?_;rintro w' rfl)|(go_at_call 266;refine Ad (PQ i _ Aa Aa) ?_;rintro w' rfl))
  go_ret;exact⟨rfl,Ai⟩
def ny(p:Nat)(n i:Int)(on:Bool)(w:Z)(hi:¬ (0<=i/\i<n))(a:w.cell? ⟨p,0,T⟩=U (Y V n)):
 I E 254 #[Ax (U ⟨p,0,T⟩),Y V i,AY on] w fun e w'=>e=W (Y V 1)/\w=w':=by
 go_enter func254,ntmps254;go_wp2_with (go_at_call 257;refine Ad (QQ p n i _ a hi) ?_;rintro w' rfl)
 go_ret;exact⟨rfl,rfl⟩
def kI{w:Z}{p g:Nat}{L:List Bool}(h:BRow w p g L)(i:Int)(on:Bool):
 I E 254 #[Ax (U ⟨p,0,T⟩),Y V i,AY on] w fun e w'=>
  e=W (Y V (if 0<=i/\i<L.length then 0 else 1))/\BRow w' p g (if 0<=i/\i<L.length then L.set i.toNat on else L)/\Wrote w w' g:=by
 have v:=h.1;have q:=h;obtain⟨l,f,n,x,y,t,o⟩:=h.cells;by_cases b:0<=i/\i<L.length
 . rw[AG b,AG b]
   obtain⟨k,rfl⟩:∃ k:Nat,i=k:=⟨i.toNat,Aa⟩;have B:=f.len;have d:=f.byte (k / 8);have r:k%8<8:=JE _ Aa;refine(Yu p g l.length L.length (l.getD (k / 8) 0) k on w Aa b.2 Aa n x (y _ Aa) (t _)).mono fun e w' ⟨he,a⟩=>⟨he,?_,?_⟩
   . rw[jq _ _ r d.1 d.2,Yv _ _ r d.1 d.2] at a
     have A:=ah f k on Aa _ rfl;obtain⟨_,z,m,j,u⟩:=q;have s:z=l:=SK m f;subst s;refine⟨by simpa using v,_,A,?_,?_⟩
     . rw[a,AZ _ _ _ _ (show p≠g from fun e=>by rw[e,o] at j;simp at j)]
       simpa using j
     . rw[a,Bk _ _ _ _ _ _ o]
       congr 1;apply BF (fun c=>Obj.cells c 5 (0,0));rw[List.map_set];apply Array.ext';simp
   . rw[a];exact Wrote.setCell _ _ _ _
 . rw[AJ b,AJ b]
   exact(ny p _ i on w b n).mono fun e w' ⟨he,a⟩=>⟨he,by rw[<- a];exact q,by rw[<- a];exact Wrote.refl _ _⟩
def MG{w:Z}{p g:Nat}{L:List Bool}(h:BRow w p g L)(i:Nat)(n:Nat)(b:Bool)(hb:L.getD i X=b):
 I E 256 #[Ax (U ⟨p,0,T⟩),Y V i] (w.drewN n) fun e w'=>e=W (AY b)/\∃ m,w'=w.drewN m:=
 (iI (h.drewN n) i).mono fun e w' ⟨he,m,a⟩=>⟨by rw[he,VL,hb],n+m,by rw[a,Z.drewN_drewN]⟩
def ID{w:Z}{p g:Nat}{L:List Bool}(h:BRow w p g L)(s:Nat)(y:s<=L.length):
 I E 258 #[Ax (U ⟨p,0,T⟩),Y V s] w fun e w'=>e=W (Y V (EU L s))/\∃ m,w'=w.drewN m:=by
 have B:=h.1;obtain⟨l,u,z,v,x,r,t⟩:=h.cells;clear u v x r t;go_enter func258,ntmps258;go_wp2_with fail
 go_loopw [1] (fun i wr=>∃ k:Nat,s<=k/\k<=L.length/\i=Y V k/\Hid (∀ j,s<=j->j<k->L.getD j X=AQ)/\∃ m,wr=w.drewN m)
  (fun i _=>L.length-(intOf i).toNat)
 case atStart=>exact⟨s,Aa,Aa,rfl,fun j c q=>Aa,0,rfl⟩
 case round=>
  obtain⟨k,n,A,rfl,a,m,rfl⟩:=hrel;by_cases f:k<L.length
  . cases d:L.getD k X
    . have b:=wN d
      clear d;go_wp2_with (go_at_call 256;refine Ad (MG h k _ X b.out) ?_;rintro w' ⟨o,rfl⟩)
      go_ret;exact⟨Je (Om n f b.out a.out).symm,o,rfl⟩
    . have b:=wN d
      clear d;go_wp2_with (go_at_call 256;refine Ad (MG h k _ AQ b.out) ?_;rintro w' ⟨o,rfl⟩)
      go_roundw
      case rel=>
       refine⟨k+1,Aa,Aa,by go_num,fun j c q=>?_,o,rfl⟩;by_cases e:j=k
       . rw[e];exact b.out
       . exact a.out j c Aa
      case measure=>simp[intOf];omega
  . go_wp2_with fail
    go_ret;exact⟨Je (Ok fun j c q=>a.out j c Aa).symm,m,rfl⟩
def Lr{w:Z}{p g:Nat}{L:List Bool}(h:BRow w p g L)(s:Nat)(a:s<=L.length)(F:Int)(b:F=EU L s):
 I E 258 #[Ax (U ⟨p,0,T⟩),Y V s] w fun e w'=>e=W (Y V F)/\∃ m,w'=w.drewN m:=by
 rw[b];exact ID h s a
def QS{w:Z}{p g:Nat}{L:List Bool}(h:BRow w p g L)(n:Nat)(F:Int)(a:F=EU L 0):
 I E 258 #[Ax (U ⟨p,0,T⟩),Y V 0] (w.drewN n) fun e w'=>e=W (Y V F)/\∃ m,w'=w.drewN m:=by
 rw[a];exact(ID (h.drewN n) 0 Aa).mono fun e w' ⟨he,m,b⟩=>⟨he,n+m,by rw[b,Z.drewN_drewN]⟩
def TK{w:Z}{p g:Nat}{L:List Bool}(h:BRow w p g L)(F:Int)(a:F=EU L 0):
 I E 258 #[Ax (U ⟨p,0,T⟩),Y V 0] w fun e w'=>e=W (Y V F)/\∃ m,w'=w.drewN m:=by
 rw[a];exact ID h 0 Aa
def YG{w:Z}{p g:Nat}{L:List Bool}(h:BRow w p g L)(a:Int):
 I E 236 #[Ax (U ⟨p,0,T⟩),Y V a] w fun e w'=>e=W (Y V (JL L a))/\∃ m,w'=w.drewN m:=by
 have x:=h.1;obtain⟨l,s,j,t,u,q,r⟩:=h.cells;clear s t u q r;obtain⟨R,b⟩:=nm (JL L a);rw[<- b];by_cases f:0<=a/\a<L.length
 . obtain⟨k,rfl⟩:∃ k:Nat,a=k:=⟨a.toNat,Aa⟩
   rw[JL,AG f,Cf] at b;obtain⟨F,d⟩:=nm (EU L k);rw[<- d] at b;by_cases n:0<=F
   . rw[AG n] at b
     have c:=wN b;have i:=wN d;clear b d;go_enter func236,ntmps236
     go_wp2_with (first|(go_at_call 257;refine Ad (OU p _ k _ j Aa f.2) ?_;rintro w' rfl)|(go_at_call 258;refine Ad (Lr h k Aa F i.out) ?_;rintro w' ⟨o,rfl⟩))
     go_ret;exact⟨Je c.out.symm,o,rfl⟩
   . rw[AJ n] at b
     have c:=wN b;have i:=wN d;clear b d;go_enter func236,ntmps236
     go_wp2_with (first|(go_at_call 257;refine Ad (OU p _ k _ j Aa f.2) ?_;rintro w' rfl)|(go_at_call 258;(with_reducible refine Ad (Lr h k Aa F i.out) ?_);rintro w' ⟨o,rfl⟩)|(go_at_call 258;(with_reducible refine Ad (QS h _ R c.out) ?_);rintro w' ⟨v,rfl⟩))
     go_ret;exact⟨rfl,_,rfl⟩
 . rw[JL,AJ f] at b
   have c:=wN b;clear b;go_enter func236,ntmps236
   go_wp2_with (first|(go_at_call 257;refine Ad (QQ p _ a _ j f) ?_;rintro w' rfl)|(go_at_call 258;(with_reducible refine Ad (TK h R c.out) ?_);rintro w' ⟨v,rfl⟩))
   go_ret;exact⟨rfl,_,rfl⟩
def QE{w:Z}{p g:Nat}{L:List Bool}(h:BRow w p g L):
 I E 235 #[Ax (U ⟨p,0,T⟩)] w fun e w'=>e=W (Y V (Ec L))/\∃ m,w'=w.drewN m:=by
 have s:=h.1;go_enter func235,ntmps235;go_wp2_with (go_at_call 255;refine Ad (VZ h) ?_;rintro w' rfl)
 go_loopw [3,7] (fun c i wr=>∃ k:Nat,k<=L.length/\i=Y V k/\c=Y V (Ec (L.take k))/\∃ m,wr=w.drewN m)
  (fun _ i _=>L.length-(intOf i).toNat)
 case atStart=>exact⟨0,Aa,rfl,rfl,0,rfl⟩
 case round=>
  obtain⟨k,r,rfl,rfl,m,rfl⟩:=hrel;have q:=Kg L k;obtain⟨C,a⟩:=nm (Ec (L.take k));rw[<- a] at q |-
  by_cases l:k<L.length
  . have b:=N5 l
    cases d:L.getD k X
    . rw[d,AJ Af,<- a] at b
      have f:=wN d;have j:=wN b;clear d b a;go_wp2_with (go_at_call 256;refine Ad (MG h k _ X f.out) ?_;rintro w' ⟨n,rfl⟩)
      go_roundw
      case rel=>exact⟨k+1,Aa,by go_num,by rw[j.out];go_num,n,rfl⟩
      case measure=>simp[intOf];omega
    . rw[d,AG rfl,<- a] at b
      have f:=wN d;have j:=wN b;clear d b a;go_wp2_with (go_at_call 256;refine Ad (MG h k _ AQ f.out) ?_;rintro w' ⟨n,rfl⟩)
      go_roundw
      case rel=>exact⟨k+1,Aa,by go_num,by rw[j.out];go_num,n,rfl⟩
      case measure=>simp[intOf];omega
  . have o:=wN a
    clear a;go_wp2_with fail
    go_ret;exact⟨Je (by rw[o.out,A2 Aa]),m,rfl⟩
end
section
open Go.RowKit
def aE{k:IntKind}{a b:Int}(h:a=b):Ending.returned (Y k a)=W (Y k b):=by rw[h]
def C7(b:Int):Bool:=decide (1<=b/\b<=768/\b%64=0)
def MD(b:Int):Int:=if C7 b=AQ then b / 64 else 0
def IW(n:Int):Int:=if n<0 then -1 else n / 64
def Ia(g:Int):Int:=if 0<=g/\g<12 then (if g=0 then 1 else g*64) else -1
def Qm(g:Int):Int:=if 0<=g/\g<12 then Ia g+1 else -1
def CZ(n:Int):Bool:=decide ((0<=n/\n<43)\/n=63\/(64<=n/\n<768/\n%64<2))
def TO{b:Int}(h:C7 b=AQ):∃ k:Nat,1<=k/\k<=12/\b=64*(k:Int):=by
 have:=Ba h;exact⟨(b / 64).toNat,Aa,Aa,Aa⟩
def TV(k:Nat)(a:1<=k)(b:k<=12):C7 (64*(k:Int))=AQ:=AK Aa
def JD:Nat->Nat
 |0=>0
 |n+1=>if CZ (n:Int)=AQ then JD n else JD n+1
def fV:Nat->Nat
 |0=>0
 |n+1=>if CZ (n:Int)=AQ then fV n+1 else fV n
def oy(n:Nat):JD n+fV n=n:=by
 induction n with
 |zero=>rfl
 |succ n ih=>unfold JD fV;by_cases h:CZ (n:Int)=AQ <;> simp only[h,AG,if_false,Bool.false_eq_true] <;> omega
def Zs:∀ n:Nat,n<=43->JD n=0:=by
 intro n;induction n with
 |zero=>intro _;rfl
 |succ n ih=>intro h;unfold JD;rw[AG (by unfold CZ;exact AK Aa),ih Aa]
def Vz:∀ n:Nat,43<=n->n<=63->JD n=n-43:=by
 intro n;induction n with
 |zero=>intro h;omega
 |succ n ih=>
  intro a b;by_cases e:n=42
  . subst e;rw[Zs 43 Aa]
  . unfold JD;rw[AJ (by unfold CZ;simp only[Bh];omega),ih Aa Aa];omega
def oL:JD 64=20:=by
 unfold JD;rw[AG Af,Vz 63 Aa Aa]
def mY(k:Nat)(b:1<=k)(d:k<12)(c:Nat)(a:JD (64*k)=c):∀ j:Nat,j<=64->JD (64*k+j)=c+(j-2):=by
 intro j;induction j with
 |zero=>intro _;simpa using a
 |succ j ih=>
  intro h;show JD (64*k+j+1)=_
  by_cases f:j<2
  . unfold JD;rw[AG (by unfold CZ;exact AK Aa),ih Aa];omega
  . unfold JD;rw[AJ (by unfold CZ;simp only[Bh];omega),ih Aa];omega
def WC:∀ k:Nat,1<=k->k<=12->JD (64*k)+42=62*k:=by
 intro k;induction k with
 |zero=>intro h;omega
 |succ k ih=>
  intro a b;by_cases e:k=0
  . subst e;rw[show 64*(0+1)=64 from rfl,oL]
  . have:=ih Aa Aa
    rw[show 64*(k+1)=64*k+64 from Aa,mY k Aa Aa _ rfl 64 Aa];omega
end
section
open Go.RowKit BM
def Gu(i a:Int):Bool:=
 if i=0\/i=65535 then decide (a=0) else if i=65534 then decide (a<6) else decide (i<48) && (decide (a<138) || decide (a=65535))
def OwB(O:Ag):Prop:=∀ j,(0<=(O.getD j (0,0)).1/\(O.getD j (0,0)).1<=65535)/\(0<=(O.getD j (0,0)).2/\(O.getD j (0,0)).2<=65535)
def Ns(O:Ag)(j:Nat):Bool:=Gu (O.getD j (0,0)).1 (O.getD j (0,0)).2
def Jk(O:Ag):Nat->Bool
 |0=>AQ
 |k+1=>Jk O k && Ns O k
def FQ(O:Ag):Bool:=decide (O.length=64) && Jk O O.length
def MR(O:Ag)(k:Nat):Jk O k=AQ ↔ ∀ j,j<k->Ns O j=AQ:=by
 induction k with
 |zero=>exact⟨fun _ j h=>Aa,fun _=>rfl⟩
 |succ k ih=>
  rw[Jk,A0,ih];constructor
  . rintro⟨a,b⟩ j c
    by_cases e:j=k
    . rw[e];exact b
    . exact a j Aa
  . exact fun h=>⟨fun j c=>h j Aa,h k Aa⟩
def aC{O:Ag}{k n:Nat}(h:Ns O k=X)(b:k<n):Jk O n=X:=by
 cases a:Jk O n
 . rfl
 . have:=(MR O n).1 a k b
   rw[h] at this;cases this
def Em(O:Ag):Nat->Ab
 |0=>[]
 |k+1=>Em O k ++ B8 (O.getD k (0,0)).1 2 ++ B8 (O.getD k (0,0)).2 2
def Fh(O:Ag)(k:Nat):(Em O k).length=4*k:=by
 induction k with
 |zero=>rfl
 |succ k ih=>rw[Em,AO,AO,ih,Bp,Bp];omega
def DO(O:Ag):Ab:=Em O O.length
def UA(l:Ab)(j:Nat):Int × Int:=(Cs l (4*j) 2,Cs l (4*j+2) 2)
def MB(l:Ab)(k:Nat):Ag:=(BE k).map (UA l)
def FX(l:Ab)(k:Nat):(MB l k).length=k:=by simp[MB]
def fP(l:Ab)(k j:Nat)(h:j<k):(MB l k).getD j (0,0)=UA l j:=by
 simp[MB,h]
def Mc{l:Ab}(h:∀ x∈l,0<=x/\x<=255)(a:Nat):0<=Cs l a 2/\Cs l a 2<=65535:=by
 have:=EI h a 2;have e:(256:Int) ^ 2=65536:=rfl;omega
def JO{O:Ag}(h:∀ j,j<O.length->(0<=(O.getD j (0,0)).1/\(O.getD j (0,0)).1<=65535)/\(0<=(O.getD j (0,0)).2/\(O.getD j (0,0)).2<=65535)):OwB O:=fun j=>by
 by_cases a:j<O.length
 . exact h j a
 . rw[Az,Bf Aa];decide
def iq{l:Ab}(h:∀ x∈l,0<=x/\x<=255)(k:Nat):OwB (MB l k):=JO fun j a=>by
 rw[FX] at a;rw[fP l k j a];exact⟨Mc h _,Mc h _⟩
def ES(O:Ag)(j:Nat):Bool:=decide ((O.getD j (0,0)).1≠0)
def CY(O:Ag)(k:Nat):List Bool:=(BE k).map (ES O)
def EL(O:Ag)(k:Nat):(CY O k).length=k:=by simp[CY]
def Y4(O:Ag)(k j:Nat)(h:j<k):(CY O k).getD j X=ES O j:=by
 simp[CY,h]
def Qb(O:Ag)(k:Nat):CY O (k+1)=CY O k ++ [ES O k]:=by simp[CY,GW]
def LV(g:Int)(j:Nat):Int × Int:=(if CZ (64*g+(j:Int))=AQ then 65535 else 0,0)
def FS(g:Int)(k:Nat):Ag:=(BE k).map (LV g)
def IF(g:Int)(k:Nat):(FS g k).length=k:=by simp[FS]
def UY(g:Int)(k:Nat):FS g (k+1)=FS g k ++ [LV g k]:=by simp[FS,GW]
def PO(b:Bool):Int:=if b then 1 else 0
def QP(L:List Bool)(j:Nat):Int:=PO (L.getD (8*j) X)+2*PO (L.getD (8*j+1) X)+4*PO (L.getD (8*j+2) X)+8*PO (L.getD (8*j+3) X)+
 16*PO (L.getD (8*j+4) X)+32*PO (L.getD (8*j+5) X)+64*PO (L.getD (8*j+6) X)+128*PO (L.getD (8*j+7) X)
def IC(L:List Bool):Ab:=(BE ((L.length+7) / 8)).map (QP L)
def Ei(b:Bool):0<=PO b/\PO b<=1:=by cases b <;> decide
def GM(b:Bool)(x:Int)(h:x=PO b):decide (x=1)=b:=by subst h;cases b <;> rfl
def cP(v0 a b c d f g h:Int)(i:0<=v0/\v0<=1)(j:0<=a/\a<=1)(k:0<=b/\b<=1)(l:0<=c/\c<=1)(m:0<=d/\d<=1)(n:0<=f/\f<=1)(o:0<=g/\g<=1)(p:0<=h/\h<=1)(x:Int)
 (q:x=v0+2*a+4*b+8*c+16*d+32*f+64*g+128*h):
 x / 2 ^ 0%2=v0/\x / 2 ^ 1%2=a/\x / 2 ^ 2%2=b/\x / 2 ^ 3%2=c/\x / 2 ^ 4%2=d/\x / 2 ^ 5%2=f/\x / 2 ^ 6%2=g/\x / 2 ^ 7%2=h:=by
 refine⟨?_,?_,?_,?_,?_,?_,?_,?_⟩ <;> omega
def dU(L:List Bool)(j k:Nat)(l:k<8):D6 (QP L j) k=L.getD (8*j+k) X:=by
 obtain⟨a,b,c,d,f,g,h,i⟩:=cP _ _ _ _ _ _ _ _ (Ei (L.getD (8*j) X)) (Ei (L.getD (8*j+1) X)) (Ei (L.getD (8*j+2) X)) (Ei (L.getD (8*j+3) X))
  (Ei (L.getD (8*j+4) X)) (Ei (L.getD (8*j+5) X)) (Ei (L.getD (8*j+6) X)) (Ei (L.getD (8*j+7) X)) (QP L j) rfl
 have e:k=0\/k=1\/k=2\/k=3\/k=4\/k=5\/k=6\/k=7:=Aa;unfold D6;rcases e with rfl|rfl|rfl|rfl|rfl|rfl|rfl|rfl
 . exact GM _ _ a
 . exact GM _ _ b
 . exact GM _ _ c
 . exact GM _ _ d
 . exact GM _ _ f
 . exact GM _ _ g
 . exact GM _ _ h
 . exact GM _ _ i
def j3(L:List Bool)(j:Nat):0<=QP L j/\QP L j<=255:=by
 have a:=Ei (L.getD (8*j) X);have b:=Ei (L.getD (8*j+1) X);have c:=Ei (L.getD (8*j+2) X);have d:=Ei (L.getD (8*j+3) X);have f:=Ei (L.getD (8*j+4) X);have g:=Ei (L.getD (8*j+5) X);have h:=Ei (L.getD (8*j+6) X);have i:=Ei (L.getD (8*j+7) X);unfold QP;omega
def ET(L:List Bool):(IC L).length=(L.length+7) / 8:=by simp[IC]
def Oh(L:List Bool)(j:Nat):(IC L).getD j 0=if j<(L.length+7) / 8 then QP L j else 0:=by
 unfold IC;rw[Az,List.getElem?_map];by_cases h:j<(L.length+7) / 8
 . rw[AG h,List.getElem?_range h];rfl
 . rw[AJ h,Bf Ak];rfl
def Qu(L:List Bool):Rep (IC L) L:=by
 refine⟨ET L,fun j=>?_,fun j=>?_⟩
 . rw[Oh];split
   . exact j3 L j
   . decide
 . rw[Oh]
   by_cases h:j / 8<(L.length+7) / 8
   . rw[AG h,dU L _ _ (JE _ Aa)]
     congr 1;omega
   . rw[AJ h,QN,Az,Bf Aa];rfl
def O7(g:Int)(L:List Bool):Ab:=[100,101,115,99] ++ B8 g 2 ++ B8 (Ec L) 2 ++ IC L
def Gz(g:Int)(L:List Bool):Ab:=BV (O7 g L)
def Mi(g:Int)(L:List Bool)(h:L.length=64):(O7 g L).length=16:=by
 simp[O7,Bp,ET,h]
end
section
open Go.RowKit
def GO(b:Int)(i:b<=9223372036854775807)(w:Z):I E 205 #[Y V b] w fun e w'=>e=W (AY (C7 b))/\w=w':=by
 by_cases g:0<b
 . by_cases c:b%64=0
   . by_cases h:b / 64<=12
     . have a:C7 b=AQ:=AK Aa
       rw[a];have f:0<=b:=Aa;have d:(b%64==0)=AQ:=(by simp[c]);clear a c;go_enter func205,ntmps205;go_wp2;go_ret;exact⟨rfl,rfl⟩
     . have a:C7 b=X:=AM Aa
       rw[a];have f:0<=b:=Aa;have d:(b%64==0)=AQ:=(by simp[c]);clear a c;go_enter func205,ntmps205;go_wp2;go_ret;exact⟨rfl,rfl⟩
   . have a:C7 b=X:=AM Aa
     rw[a];have f:0<=b:=Aa;have d:(b%64==0)=X:=(by simp[c]);clear a;go_enter func205,ntmps205;go_wp2;go_ret;exact⟨rfl,rfl⟩
 . have a:C7 b=X:=AM Aa
   rw[a];clear a;go_enter func205,ntmps205;go_wp2;go_ret;exact⟨rfl,rfl⟩
def GK(k:Nat)(a:1<=k)(b:k<=12)(w:Z):I E 205 #[Y V (64*(k:Int))] w fun e w'=>e=W (AY AQ)/\w=w':=by
 have:=GO (64*(k:Int)) Aa w;rw[TV k a b] at this;exact this
def LL(b:Int)(a:b<=9223372036854775807)(h:C7 b=X)(w:Z):I E 205 #[Y V b] w fun e w'=>e=W (AY X)/\w=w':=by
 have:=GO b a w;rw[h] at this;exact this
def Kf(k:Nat)(a:1<=k)(b:k<=12)(w:Z):I E 220 #[Y V (64*(k:Int))] w fun e w'=>e=W (Y V k)/\w=w':=by
 go_enter func220,ntmps220;go_wp2_with (go_at_call 205;refine Ad (GK k a b _) ?_;rintro w' rfl)
 go_ret;exact⟨aE Aa,rfl⟩
def UB(b:Int)(h:b<=9223372036854775807)(w:Z):I E 220 #[Y V b] w fun e w'=>e=W (Y V (MD b))/\w=w':=by
 cases a:C7 b
 . have c:MD b=0:=by unfold MD;rw[AJ (by simp[a])]
   rw[c];have d:=wN a;clear a c;go_enter func220,ntmps220;go_wp2_with (go_at_call 205;refine Ad (LL b h d.out _) ?_;rintro w' rfl)
   go_ret;exact⟨rfl,rfl⟩
 . obtain⟨k,f,g,rfl⟩:=TO a
   have c:MD (64*(k:Int))=k:=(by unfold MD;rw[AG a];omega);rw[c];exact Kf k f g w
def LC(n:Int)(c:n<=9223372036854775807)(w:Z):I E 238 #[Y V n] w fun e w'=>e=W (Y V (IW n))/\w=w':=by
 by_cases h:n<0
 . have a:IW n= -1:=AG h
   rw[a];clear a;go_enter func238,ntmps238;go_wp2;go_ret;exact⟨rfl,rfl⟩
 . have a:IW n=n / 64:=AJ h
   rw[a];clear a;have b:0<=n:=Aa;go_enter func238,ntmps238;go_wp2;go_ret;exact⟨rfl,rfl⟩
def DF(g:Int)(a:0<=g)(b:g<12)(w:Z):I E 241 #[Y V g] w fun e w'=>e=W (AY AQ)/\w=w':=by
 go_enter func241,ntmps241;go_wp2;go_ret;exact⟨rfl,rfl⟩
def Jo(g:Int)(h:¬ (0<=g/\g<12))(w:Z):I E 241 #[Y V g] w fun e w'=>e=W (AY X)/\w=w':=by
 by_cases a:0<=g
 . have c:¬ g<12:=fun b=>h ⟨a,b⟩
   go_enter func241,ntmps241;go_wp2;go_ret;exact⟨rfl,rfl⟩
 . go_enter func241,ntmps241
   go_wp2;go_ret;exact⟨rfl,rfl⟩
def Kq(g:Int)(w:Z):I E 242 #[Y V g] w fun e w'=>e=W (Y V (Ia g))/\w=w':=by
 by_cases h:0<=g/\g<12
 . obtain⟨c,d⟩:=h
   by_cases b:g=0
   . subst b
     rw[show Ia 0=1 from rfl];go_enter func242,ntmps242;go_wp2_with (go_at_call 241;refine Ad (DF 0 Af Af _) ?_;rintro w' rfl)
     go_ret;exact⟨rfl,rfl⟩
   . have a:Ia g=g*64:=by unfold Ia;rw[AG ⟨c,d⟩,AJ b]
     rw[a];have f:(g==0)=X:=(by simp[b]);clear a b;go_enter func242,ntmps242;go_wp2_with (go_at_call 241;refine Ad (DF g c d _) ?_;rintro w' rfl)
     go_ret;exact⟨rfl,rfl⟩
 . have a:Ia g= -1:=AJ h
   rw[a];have H:=wN h;clear a h;go_enter func242,ntmps242;go_wp2_with (go_at_call 241;refine Ad (Jo g H.out _) ?_;rintro w' rfl)
   go_ret;exact⟨rfl,rfl⟩
def jp(g:Int)(a:0<=g)(b:g<12):0<=Ia g/\Ia g<=704:=by
 unfold Ia;rw[AG ⟨a,b⟩];split <;> omega
def J9(g:Int)(w:Z):I E 243 #[Y V g] w fun e w'=>e=W (Y V (Qm g))/\w=w':=by
 by_cases h:0<=g/\g<12
 . have a:Qm g=Ia g+1:=AG h
   rw[a];obtain⟨b,c⟩:=h;obtain⟨d,f⟩:=jp g b c;clear a;go_enter func243,ntmps243
   go_wp2_with (first|(go_at_call 241;refine Ad (DF g b c _) ?_;rintro w' rfl)|(go_at_call 242;refine Ad (Kq g _) ?_;rintro w' rfl))
   go_ret;exact⟨rfl,rfl⟩
 . have a:Qm g= -1:=AJ h
   rw[a];have H:=wN h;clear a h;go_enter func243,ntmps243;go_wp2_with (go_at_call 241;refine Ad (Jo g H.out _) ?_;rintro w' rfl)
   go_ret;exact⟨rfl,rfl⟩
def bT(w:Z):I E 245 #[] w fun e w'=>e=W (Y V 63)/\w=w':=by
 go_enter func245,ntmps245;go_wp2;go_ret;exact⟨rfl,rfl⟩
def jrnB(n:Int):Bool:=decide (3<=n/\n<43)
def Tm(n:Int)(w:Z):I E 244 #[Y V n] w fun e w'=>e=W (AY (jrnB n))/\w=w':=by
 by_cases a:3<=n
 . by_cases b:n<43
   . rw[show jrnB n=AQ from AK ⟨a,b⟩]
     go_enter func244,ntmps244;go_wp2;go_ret;exact⟨rfl,rfl⟩
   . rw[show jrnB n=X from AM Aa]
     go_enter func244,ntmps244;go_wp2;go_ret;exact⟨rfl,rfl⟩
 . rw[show jrnB n=X from AM Aa]
   go_enter func244,ntmps244;go_wp2;go_ret;exact⟨rfl,rfl⟩
def Sh(k:Nat)(a:1<=k)(b:k<=12)(w:Z):I E 216 #[Y V (64*(k:Int))] w fun e w'=>e=W (Y V (62*(k:Int)-42))/\w=w':=by
 go_enter func216,ntmps216
 go_wp2_with (first|(go_at_call 205;refine Ad (GK k a b _) ?_;rintro w' rfl)|(go_at_call 220;refine Ad (Kf k a b _) ?_;rintro w' rfl))
 go_ret;exact⟨aE Aa,rfl⟩
def fc(n:Int)(b:n<=9223372036854775807)(h:¬ (0<=IW n/\IW n<12))(w:Z):I E 221 #[Y V n] w fun e w'=>e=W (AY (CZ n))/\w=w':=by
 have a:CZ n=X:=by
  unfold CZ;refine AM ?_;unfold IW at h;split at h <;> omega
 rw[a];have H:=wN h;clear a h;go_enter func221,ntmps221
 go_wp2_with (first|(go_at_call 238;refine Ad (LC n b _) ?_;rintro w' rfl)|(go_at_call 241;refine Ad (Jo _ H.out _) ?_;rintro w' rfl))
 go_ret;exact⟨rfl,rfl⟩
def ru(n:Int)(a:0<=IW n)(c:IW n<12):CZ n=(((((n==0) || (n==Ia (IW n))) || (n==Qm (IW n))) || jrnB n) || (n==63)):=by
 have g:0<=n:=by unfold IW at a;split at a <;> omega
 have f:IW n=n / 64:=by unfold IW;rw[AJ Aa]
 rw[f] at a c |-
 rw[Bool.eq_iff_iff];unfold CZ jrnB Qm Ia;have d:0<=n / 64/\n / 64<12:=⟨a,c⟩;simp only[AG d,Bh,Bool.or_eq_true,beq_iff_eq];by_cases b:n / 64=0
 . simp only[AG b];omega
 . simp only[AJ b];omega
def Zy(n:Int)(p:n<=9223372036854775807)(d:0<=IW n)(f:IW n<12)(w:Z):I E 221 #[Y V n] w fun e w'=>e=W (AY (CZ n))/\w=w':=by
 rw[ru n d f];obtain⟨G,i⟩:=nm (IW n);have a:I E 238 #[Y V n] w fun e w'=>e=W (Y V G)/\w=w':=by rw[i];exact LC n p w
 rw[<- i] at d f |-
 clear i;obtain⟨D,h⟩:=nm (Ia G);have b:I E 242 #[Y V G] w fun e w'=>e=W (Y V D)/\w=w':=by rw[h];exact Kq G w
 rw[<- h];clear h;obtain⟨O,k⟩:=nm (Qm G);have c:I E 243 #[Y V G] w fun e w'=>e=W (Y V O)/\w=w':=by rw[k];exact J9 G w
 rw[<- k];clear k;obtain⟨J,j⟩:=nm (jrnB n);have g:I E 244 #[Y V n] w fun e w'=>e=W (AY J)/\w=w':=by rw[j];exact Tm n w
 rw[<- j];clear j;rcases l:(n==0) with _|_
 . rcases m:(n==D) with _|_
   . rcases o:(n==O) with _|_
     . cases J
       . go_enter func221,ntmps221
         go_wp2_with (first|(go_at_call 238;refine Ad a ?_;rintro w' rfl)|(go_at_call 241;refine Ad (DF G d f _) ?_;rintro w' rfl)|(go_at_call 242;refine Ad b ?_;rintro w' rfl)|(go_at_call 243;refine Ad c ?_;rintro w' rfl)|(go_at_call 244;refine Ad g ?_;rintro w' rfl)|(go_at_call 245;refine Ad (bT _) ?_;rintro w' rfl))
         go_ret;exact⟨Ai,rfl⟩
       . go_enter func221,ntmps221
         go_wp2_with (first|(go_at_call 238;refine Ad a ?_;rintro w' rfl)|(go_at_call 241;refine Ad (DF G d f _) ?_;rintro w' rfl)|(go_at_call 242;refine Ad b ?_;rintro w' rfl)|(go_at_call 243;refine Ad c ?_;rintro w' rfl)|(go_at_call 244;refine Ad g ?_;rintro w' rfl))
         go_ret;exact⟨rfl,rfl⟩
     . go_enter func221,ntmps221
       go_wp2_with (first|(go_at_call 238;refine Ad a ?_;rintro w' rfl)|(go_at_call 241;refine Ad (DF G d f _) ?_;rintro w' rfl)|(go_at_call 242;refine Ad b ?_;rintro w' rfl)|(go_at_call 243;refine Ad c ?_;rintro w' rfl))
       go_ret;exact⟨rfl,rfl⟩
   . go_enter func221,ntmps221
     go_wp2_with (first|(go_at_call 238;refine Ad a ?_;rintro w' rfl)|(go_at_call 241;refine Ad (DF G d f _) ?_;rintro w' rfl)|(go_at_call 242;refine Ad b ?_;rintro w' rfl))
     go_ret;exact⟨rfl,rfl⟩
 . go_enter func221,ntmps221
   go_wp2_with (first|(go_at_call 238;refine Ad a ?_;rintro w' rfl)|(go_at_call 241;refine Ad (DF G d f _) ?_;rintro w' rfl))
   go_ret;exact⟨rfl,rfl⟩
def Zm(n:Int)(a:n<=9223372036854775807)(w:Z):I E 221 #[Y V n] w fun e w'=>e=W (AY (CZ n))/\w=w':=by
 by_cases h:0<=IW n/\IW n<12
 . exact Zy n a h.1 h.2 w
 . exact fc n a h w
def Lh(n:Int)(a:n<=9223372036854775807)(B:Bool)(h:CZ n=B)(w:Z):I E 221 #[Y V n] w fun e w'=>e=W (AY B)/\w=w':=by
 rw[<- h];exact Zm n a w
section
variable {α:Type}{f:α->List A}{s:Nat}
def CR:∀ {L:List α},(∀ x∈L,(f x).length=s)->(L.flatMap f).length=L.length*s
 |[],_=>Ai
 |x :: L,h=>by
  rw[CL,AO,CR (fun z a=>h z (B9 _ a)),h x Ai,BJ,Nat.succ_mul];omega
def Gi:∀ {L:List α},(∀ x∈L,(f x).length=s)->∀ (i:Nat) (hi:i<L.length),((L.flatMap f).drop (i*s)).take s=f L[i]
 |[],_,i,hi=>by simp at hi
 |x :: L,h,0,_=>by
  rw[CL,Nat.zero_mul,CX,Dr (by rw[h x Ai];exact AE _),<- h x Ai,BZ];rfl
 |x :: L,h,i+1,hi=>by
  have a:=h x Ai;rw[CL,show(i+1)*s=(f x).length+i*s by rw[a,Nat.succ_mul];omega,List.drop_length_add_append];exact Gi (fun z b=>h z (B9 _ b)) i (by simpa using hi)
def IN:∀ {L:List α},(∀ x∈L,(f x).length=s)->∀ (i:Nat) (hi:i<L.length) (y:α),(f y).length=s->splice (L.flatMap f) (i*s) (f y)=(L.set i y).flatMap f
 |[],_,i,hi,_,_=>by simp at hi
 |x :: L,h,0,_,y,hy=>by
  have a:=h x Ai;simp only[splice,Nat.zero_mul,List.take_zero,List.nil_append,BC,List.set_cons_zero,CL];rw[hy,<- a,List.drop_left]
 |x :: L,h,i+1,hi,y,hy=>by
  have a:=h x Ai;have c:=IN (fun z b=>h z (B9 _ b)) i (by simpa using hi) y hy;rw[List.set_cons_succ,CL,CL,<- c];simp only[splice];rw[show(i+1)*s=(f x).length+i*s by rw[a,Nat.succ_mul];omega,DL,Dw,List.drop_length_add_append,Bj]
end
def Fp{w:Z}{g o:Nat}{t:Cn}{vs cur:List A}(c:w.heap[g]? =U (Ay cur.toArray t (0,0)))(h:o+vs.length<=cur.length)(d:∀ v∈vs,v.oneCell'=AQ):
 w.setCells g o vs=w.setRow g (splice cur o vs).toArray:=by
 have a:=run_storeCells_cells (P:=E) g o vs 0 w
  (fun j f=>by rw[AD _ _ _ _ _ _ c];simp;omega)
  (fun j f=>by simp[Z.frozen?,c]) d
 have b:=run_storeCells_at E g o t vs 0 cur.toArray w c (by simpa using h) d;rw[a] at b
 injection b with _ b
 simpa [splice] using b
def Ft{w:Z}{g o n:Nat}{t:Cn}{cur:List A}(a:w.heap[g]? =U (Ay cur.toArray t (0,0)))(c:o+n<=cur.length):w.there g o n:=fun j b=>by
 refine⟨by rw[AD _ _ _ _ _ _ a];simp;omega,by simp[Z.frozen?,a]⟩
def Es{w:Z}{g o:Nat}{t:Cn}{vs cur:List A}(b:w.heap[g]? =U (Ay cur.toArray t (0,0)))(h:(cur.drop o).take vs.length=vs):w.rangeAt g o vs:=fun j v a=>by
 rw[AD _ _ _ _ _ _ b];have c:=(Bo.1 a).1;rw[<- h,Bb,AG c,Bv] at a
 simpa using a
end
section
open Go.RowKit BM
def OwSl(w:Z)(v:A)(O:Ag):Prop:=
 OwB O/\((v=Aw T 0 0/\O=[])\/∃ a b,v=Aw (U a) O.length b/\∀ j,j<O.length->a.block<w.heap.size/\a.spot=T/\
  w.cell? ⟨a.block,a.off+j*2,T⟩=U (Y .u16 (O.getD j (0,0)).1)/\w.cell? ⟨a.block,a.off+j*2+1,T⟩=U (Y .u16 (O.getD j (0,0)).2))
def OwSl.below{w w':Z}{v:A}{O:Ag}(h:OwSl w v O)(hb:AB w.heap.size w w'):OwSl w' v O:=by
 refine⟨h.1,?_⟩;rcases h.2 with h| ⟨a,b,l,i⟩
 . exact A4 h
 . refine A8 ⟨a,b,l,fun j k=>?_⟩
   obtain⟨c,d,f,g⟩:=i j k;exact⟨AL c hb.size,d,by rw[hb.cell (p:=⟨a.block,a.off+j*2,T⟩) c,f],by rw[hb.cell (p:=⟨a.block,a.off+j*2+1,T⟩) c,g]⟩
def OwSl.shape{w:Z}{v:A}{O:Ag}(h:OwSl w v O):∃ c cap,v=Aw c O.length cap:=by
 rcases h.2 with⟨b,d⟩| ⟨a,cap,b,_⟩
 . exact⟨T,0,by rw[b,d];rfl⟩
 . exact⟨U a,cap,b⟩
def OwSl.at{w:Z}{v:A}{O:Ag}(h:OwSl w v O)(c:0<O.length):∃ b off cap,v=Aw (U ⟨b,off,T⟩) O.length cap/\b<w.heap.size/\
 ∀ j,j<O.length->w.cell? ⟨b,off+j*2,T⟩=U (Y .u16 (O.getD j (0,0)).1)/\w.cell? ⟨b,off+j*2+1,T⟩=U (Y .u16 (O.getD j (0,0)).2):=by
 rcases h.2 with⟨_,k⟩| ⟨⟨b,off,a⟩,cap,l,d⟩
 . rw[k] at c;simp at c
 . obtain⟨f,g,_⟩:=d 0 c
   obtain rfl:a=T:=g;exact⟨b,off,cap,l,f,fun j i=>(d j i).2.2⟩
def cO(x:Int × Int):List A:=[Y .u16 x.1,Y .u16 x.2]
def Fx(O:Ag):List A:=O.flatMap cO
def LR:∀ x:Int × Int,(cO x).length=2:=fun _=>rfl
def DK(O:Ag):(Fx O).length=O.length*2:=CR fun x _=>LR x
def Oj(O P:Ag):Fx (O ++ P)=Fx O ++ Fx P:=DY
def L4(O:Ag)(j:Nat)(h:j<O.length):(Fx O)[j*2]? =U (Y .u16 (O.getD j (0,0)).1)/\(Fx O)[j*2+1]? =U (Y .u16 (O.getD j (0,0)).2):=by
 have c:=Gi (f:=cO) (s:=2) (L:=O) (fun x _=>LR x) j h;have e:O.getD j (0,0)=O[j]:=by simp[h]
 rw[e];have a:=BF (fun z=>z[0]?) c;have b:=BF (fun z=>z[1]?) c;simp only[Bb,Bv,Nat.add_zero] at a b;rw[AG Aa] at a b;exact⟨a,b⟩
def OwR(w:Z)(B:Nat)(v:A)(O:Ag):Prop:=OwB O/\w.ownsRow B 200 2 v O.length (Fx O)
def OwR.sl{w:Z}{B:Nat}{v:A}{O:Ag}(h:OwR w B v O):OwSl w v O:=by
 refine⟨h.1,?_⟩;rcases h.2.2 with⟨f,l⟩| ⟨g,a,i,f,q,d,n,o,p,m⟩
 . exact A4 ⟨f,A3 l⟩
 . refine A8 ⟨_,a,f,fun j k=>⟨(Au.1 d).1,rfl,?_⟩⟩
   obtain⟨b,c⟩:=L4 O j k;rw[<- m,Bb] at b c;rw[AG Aa] at b c;rw[BC,AD _ _ _ _ _ _ d,AD _ _ _ _ _ _ d];exact⟨by simpa using b,by simpa using c⟩
def OwR.more{w:Z}{B B':Nat}{v:A}{O:Ag}(h:OwR w B v O)(c:B'<=B):OwR w B' v O:=by
 refine⟨h.1,h.2.1,?_⟩;rcases h.2.2 with h| ⟨g,a,b,f,d,r⟩
 . exact A4 h
 . exact A8 ⟨g,a,b,f,AU c d,r⟩
def OwR.below{w w':Z}{B:Nat}{v:A}{O:Ag}(h:OwR w B v O)(hb:AB w.heap.size w w'):OwR w' B v O:=by
 refine⟨h.1,h.2.1,?_⟩;rcases h.2.2 with h| ⟨g,a,b,f,d,c,r⟩
 . exact A4 h
 . exact A8 ⟨g,a,b,f,d,by rw[hb.block g (Au.1 c).1];exact c,r⟩
def OwR.of_row{w:Z}{B g:Nat}{O:Ag}(hb:OwB O)(a:B<=g)(b:w.heap[g]? =U (Ay (Fx O).toArray 200 (0,0)))(c:O.length<=maxLen):
 OwR w B (Aw (U ⟨g,0,T⟩) O.length O.length) O:=by
 refine⟨hb,DK O,A8 ⟨g,O.length,_,rfl,a,b,AE _,c,by simp[DK],?_⟩⟩;rw[A2 (by simp[DK])]
def TG:(E.info? 200).map (fun i=>(i.zero,i.size,i.bytes))=U (U (BS #[Y .u16 0,Y .u16 0]),2,4):=Ac
def oG(n:Nat):madeCells (A.agg #[Y .u16 0,Y .u16 0]).cells (n*2)=(Fx (AI n (0,0))).toArray:=by
 have e:Fx (AI n (0,0))=AI (n*2) (Y .u16 0):=by
  apply List.ext_getElem?;intro i;by_cases h:i<n*2
  . have a:i / 2<(AI n ((0:Int),(0:Int))).length:=by simp;omega
    have d:(AI n ((0:Int),(0:Int))).getD (i / 2) (0,0)=(0,0):=by
     rw[Az,CA];split <;> rfl
    obtain⟨b,c⟩:=L4 _ _ a;rw[d] at b c;rw[CA,AG h];rcases Fu i with e|e
    . rw[show i=i / 2*2 from Aa];exact b
    . rw[show i=i / 2*2+1 from Aa];exact c
  . rw[Bf (by rw[DK];simp;omega),Bf Ak]
 rw[e];apply Array.ext
 . simp[size_madeCells]
 . intro i f a
   simp only[madeCells,A.cells,Array.getElem_map,Array.getElem_range];simp;have:i%2=0\/i%2=1:=Aa;rcases this with e|e <;> rw[e] <;> rfl
def Qe(w:Z){b:Array BK}{rest:List BK}{o:BK}{a:Act}{Q:Exit->Act->Z->Prop}
 (s:o.guard=T) (l c:Operand) (g:o.op=Op.makeSlice 146 l c) (C:Int) (n:Nat) (t:a.eval l=Y V C) (r:a.eval c=Y V C) (p:C=n) (u:n<=1000000)
 (q:Cj E b Q rest (a.put o.dst (Aw (U ⟨w.heap.size,0,T⟩) n n)) (w.alloc (Ay (Fx (AI n (0,0))).toArray 200))):
 Cj E b Q (o :: rest) a w:=by
 refine CH s fun K d=>?_
 obtain⟨i,h,j,k,m⟩:=Bs TG;subst p;have f:=run_make (P:=E) w 146 200 i (BS #[Y .u16 0,Y .u16 0]) underlying146 h j V V n n Aa Aa (by rw[m];omega) Aa;unfold BK.wp;simp only[Cf,k,oG] at f;simp[execOp,g,t,r,f,Result.andThen];exact d _ _ q
def OD{b:Array BK}{rest:List BK}{op:BK}{a:Act}{w:Z}{Q:Exit->Act->Z->Prop}(n:op.guard=T)(x y:Operand)(p:op.op=.store 200 x y)
 (g k:Nat) (O:Ag) (i j:Int) (r:a.eval x=Ax (U ⟨g,k*2,T⟩)) (t:a.eval y=BS #[Y .u16 i,Y .u16 j])
 (c:w.heap[g]? =U (Ay (Fx O).toArray 200 (0,0))) (o:k<O.length)
 (h:∀ w',Wrote w w' g->w'.heap[g]? =U (Ay (Fx (O.set k (i,j))).toArray 200 (0,0))->Cj E b Q rest (a.put op.dst undef) w'):Cj E b Q (op :: rest) a w:=by
 have q:(E.info? 200).map (·.size)=U 2:=Ac;have l:k*2+(cO (i,j)).length<=(Fx O).length:=by rw[DK,LR];omega
 have d:∀ v∈cO (i,j),v.oneCell'=AQ:=fun v m=>by simp[cO] at m;rcases m with rfl|rfl <;> rfl
 refine wpList_store_mid n 200 x y p g (k*2) #[Y .u16 i,Y .u16 j] r t (Ft c l) (by rw[q];rfl) (Gt (cs:=cO (i,j)) d) ?_;have e:=Fp c l d;rw[show(#[Y .u16 i,Y .u16 j]:Array A).toList=cO (i,j) from rfl,e];refine h _ (Wrote.setRow _ _ _) ?_;rw[CJ _ _ _ _ _ _ c,Fx,IN (f:=cO) (s:=2) (fun x _=>LR x) k o (i,j) (LR _)];rfl
def IX(w1:Z)(i j:Int)(hi:0<=i/\i<=65535)(G:0<=j/\j<=65535){d:Array BK}{rest:List BK}{o:BK}{a:Act}{Q:Exit->Act->Z->Prop}(n:o.guard=T)(s y:Operand)
 (J:o.op=.call { callee:=.builtin .append,args:=#[s,y],argTypes:=#[146,146] })
 (B:Nat) (v:A) (O:Ag) (K:a.eval s=v) (c:OwR w1 B v O) (M:O.length<=1000000) (L:a.eval y=Aw (U ⟨w1.heap.size,0,T⟩) 1 1) (F:B<=w1.heap.size)
 (h:∀ v' w',OwR w' B v' (O ++ [(i,j)])->AB B w1 w'->Cj E d Q rest (a.put o.dst v') w'):Cj E d Q (o :: rest) a (w1.alloc (Ay #[Y .u16 i,Y .u16 j] 200)):=by
 obtain⟨t,r,w,x,z⟩:=Bs TG;have b:AB w1.heap.size w1 (w1.alloc (Ay #[Y .u16 i,Y .u16 j] 200)):=AF _ _;have p:(w1.alloc (Ay #[Y .u16 i,Y .u16 j] 200)).heap[w1.heap.size]? =U (Ay #[Y .u16 i,Y .u16 j] 200 (0,0)):=AC w1 _;have g:=c.below b;refine FU _ n s y 146 J B 200 t _ 2 4 underlying146 r w x z rfl Af v O.length _ K g.2 ⟨w1.heap.size,0,T⟩ 1 1 [Y .u16 i,Y .u16 j] L rfl ?_ ?_ (by simp only[maxLen];omega) Aa Ak fun v' w' C D _=>?_
 . intro m u f
   have I:m<2:=by simpa using (Bo.1 f).1
   rw[Cd,BC,AD _ _ _ _ _ _ p,<- f];have:m=0\/m=1:=Aa;rcases this with rfl|rfl <;> rfl
 . intro u l
   simp at l;rcases l with rfl|rfl <;> rfl
 . refine h v' w' ⟨JO fun m f=>?_,?_⟩ ((b.mono F).trans ((AP _ _).grown D Ak fun k H=>(BY g.2 k H).1))
   . by_cases e:m<O.length
     . have:=c.1 m
       rw[Az,BT e,<- Az];exact this
     . have q:m=O.length:=by simp at f;omega
       subst q;rw[Az,B5 (AE _)];simpa using ⟨hi,G⟩
   . rw[AO,Oj];exact C
def Qr(g:Int)(a:0<=g)(b:g<12)(w:Z):I E 270 #[Y V g] w fun e w'=>e=W (AY AQ)/\w=w':=by
 go_enter func270,ntmps270;go_wp2;go_ret;exact⟨rfl,rfl⟩
def Xr(i a:Int)(p:0<=i)(hi:i<=65535)(o:0<=a)(t:a<=65535)(w:Z):
 I E 214 #[BS #[Y .u16 i,Y .u16 a]] w fun e w'=>e=W (AY (Gu i a))/\AB w.heap.size w w':=by
 have c:=AF w (Ay #[Y .u16 i,Y .u16 a] 200);obtain⟨B,b⟩:=nm (Gu i a);rw[<- b];unfold Gu at b;by_cases g:i=0
 . rw[AG (A4 g)] at b
   subst g;cases f:decide (a=0)
   all_goals
    rw[f] at b;have d:=wN b;have n:(a==0)=_:=f;clear b f;go_enter func214,ntmps214;go_wp2;go_ret;exact⟨by rw[d.out];rfl,c⟩
 . have q:(i==0)=X:=by simpa using g
   by_cases h:i=65535
   . rw[AG (A8 h)] at b
     subst h;cases f:decide (a=0)
     all_goals
      rw[f] at b;have d:=wN b;have n:(a==0)=_:=f;clear b f g;go_enter func214,ntmps214;go_wp2;go_ret;exact⟨by rw[d.out];rfl,c⟩
   . rw[AJ Aa] at b
     have r:(i==65535)=X:=by simpa using h
     by_cases j:i=65534
     . rw[AG j] at b
       subst j;cases f:decide (a<6)
       all_goals
        rw[f] at b;have d:=wN b;clear b g h;go_enter func214,ntmps214;go_wp2;go_ret;exact⟨by rw[d.out];rfl,c⟩
     . rw[AJ j] at b
       have s:(i==65534)=X:=by simpa using j
       clear g h j;by_cases k:i<48
       . by_cases m:a<138
         . have d:Hid (B=AQ):=wN (by rw[b];simp[k,m])
           clear b;go_enter func214,ntmps214;go_wp2;go_ret;exact⟨by rw[d.out];rfl,c⟩
         . have n:(a==65535)=B:=by rw[b,AK k,AM m];rfl
           have l:B=AQ\/B=X:=by cases B <;> simp
           clear b;rcases l with rfl|rfl
           all_goals
            go_enter func214,ntmps214;go_wp2;go_ret;exact⟨rfl,c⟩
       . have d:Hid (B=X):=wN (by rw[b];simp[k])
         clear b;go_enter func214,ntmps214;go_wp2;go_ret;exact⟨by rw[d.out];rfl,c⟩
def Hk(i a:Int)(hi:0<=i/\i<=65535)(b:0<=a/\a<=65535)(B:Bool)(h:Gu i a=B)(w:Z):
 I E 214 #[BS #[Y .u16 i,Y .u16 a]] w fun e w'=>e=W (AY B)/\AB w.heap.size w w':=by
 rw[<- h];exact Xr i a hi.1 hi.2 b.1 b.2 w
def fG{w:Z}(a:Option Addr)(len cap:Nat)(h:len≠64):I E 267 #[Aw a len cap] w fun e w'=>e=W (AY X)/\w=w':=by
 have b:((len:Int) != 64)=AQ:=Ak;go_enter func267,ntmps267;go_wp2;go_ret;exact⟨rfl,rfl⟩
def ip{w:Z}{b off cap:Nat}{O:Ag}(r:O.length=64)(v:OwB O)(hb:b<w.heap.size)
 (z:∀ j,j<O.length->w.cell? ⟨b,off+j*2,T⟩=U (Y .u16 (O.getD j (0,0)).1)/\w.cell? ⟨b,off+j*2+1,T⟩=U (Y .u16 (O.getD j (0,0)).2)):
 I E 267 #[Aw (U ⟨b,off,T⟩) 64 cap] w fun e w'=>e=W (AY (FQ O))/\AB w.heap.size w w':=by
 obtain⟨R,s⟩:=nm (FQ O);rw[<- s];have C:=wN z;have D:=wN r;have n:=wN v;have l:R=Jk O 64:=by rw[s,FQ,r];rfl
 have u:=wN l;clear z r v s l;go_enter func267,ntmps267;go_wp2;go_loopw [10] (fun i wr=>∃ k:Nat,k<=64/\i=Y V k/\Hid (Jk O k=AQ)/\AB w.heap.size w wr) (fun i _=>64-(intOf i).toNat)
 case atStart=>exact⟨0,Aa,rfl,rfl,AP _ _⟩
 case round=>
  obtain⟨k,K,rfl,t,a⟩:=hrel;by_cases m:k<64
  . have d:=C.out k (by rw[D.out];exact m)
    have c:=n.out k;have g:Ns O k=Gu (O.getD k (0,0)).1 (O.getD k (0,0)).2:=rfl;obtain⟨x,A⟩:=nm ((O.getD k (0,0)).1);obtain⟨y,B⟩:=nm ((O.getD k (0,0)).2);rw[<- A,<- B] at d c g;have G:=(a.cell (p:=⟨b,off+k*2,T⟩) hb).trans d.1;have H:=(a.cell (p:=⟨b,off+k*2+1,T⟩) hb).trans d.2;have J:(k:Int)<64:=Aa;clear A B d;cases h:Gu x y
    . have o:=wN h
      rw[h] at g;have q:=wN g;clear h g;go_wp2_with (go_at_call 214;refine Ad (Hk x y c.1 c.2 X o.out _) ?_;rintro F f)
      go_ret;exact⟨Dl (by rw[u.out,aC q.out m]),(a.trans ((AF _ _).mono a.size)).trans (f.mono (by have:=a.size;simp;omega))⟩
    . have o:=wN h
      rw[h] at g;have q:=wN g;clear h g;go_wp2_with (go_at_call 214;refine Ad (Hk x y c.1 c.2 AQ o.out _) ?_;rintro F f)
      go_roundw
      case rel=>exact⟨k+1,Aa,by go_num,by show Jk O (k+1)=AQ;rw[Jk,t.out,q.out];rfl,(a.trans ((AF _ _).mono a.size)).trans (f.mono (by have:=a.size;simp;omega))⟩
      case measure=>simp[intOf];omega
  . obtain rfl:k=64:=by omega
    go_wp2;go_ret;exact⟨Dl (by rw[u.out,t.out]),a⟩
def fT{w:Z}{v:A}{O:Ag}(c:OwSl w v O):I E 267 #[v] w fun e w'=>e=W (AY (FQ O))/\AB w.heap.size w w':=by
 by_cases h:O.length=64
 . obtain⟨b,j,a,rfl,f,g⟩:=c.at Aa
   rw[h];exact ip h c.1 f g
 . obtain⟨d,a,rfl⟩:=c.shape
   refine(fG d _ a h).mono fun e w' ⟨he,i⟩=>⟨?_,by rw[<- i];exact AP _ _⟩
   rw[he,FQ,AM h];rfl
end
section
open Go.RowKit
def J5(b:Int)(i:b<=9223372036854775807)(w:Z):I E 110 #[Y V b] w fun e w'=>e=W (AY (C7 b))/\w=w':=by
 by_cases g:64<=b
 . by_cases h:b<=768
   . have f:0<=b:=by omega
     by_cases c:b%64=0
     . have a:C7 b=AQ:=AK Aa
       rw[a];have d:(b%64==0)=AQ:=(by simp[c]);clear a c;go_enter func110,ntmps110;go_wp2;go_ret;exact⟨rfl,rfl⟩
     . have a:C7 b=X:=AM Aa
       rw[a];have d:(b%64==0)=X:=(by simp[c]);clear a c;go_enter func110,ntmps110;go_wp2;go_ret;exact⟨rfl,rfl⟩
   . have a:C7 b=X:=AM Aa
     rw[a];clear a;go_enter func110,ntmps110;go_wp2;go_ret;exact⟨rfl,rfl⟩
 . have a:C7 b=X:=AM Aa
   rw[a];clear a;go_enter func110,ntmps110;go_wp2;go_ret;exact⟨rfl,rfl⟩
def Wl(k:Nat)(a:1<=k)(b:k<=12)(w:Z):I E 110 #[Y V (64*(k:Int))] w fun e w'=>e=W (AY AQ)/\w=w':=by
 have:=J5 (64*(k:Int)) Aa w;rw[TV k a b] at this;exact this
def YC(b:Int)(a:b<=9223372036854775807)(h:C7 b=X)(w:Z):I E 110 #[Y V b] w fun e w'=>e=W (AY X)/\w=w':=by
 have:=J5 b a w;rw[h] at this;exact this
def Vn(b:Int)(d:b<=9223372036854775807)(w:Z):I E 67 #[Y V b] w fun e w'=>e=W (Y V (MD b))/\w=w':=by
 cases a:C7 b
 . have c:MD b=0:=by unfold MD;rw[AJ (by simp[a])]
   rw[c];have f:=wN a;clear a c;go_enter func67,ntmps67;go_wp2_with (go_at_call 110;refine Ad (YC b d f.out _) ?_;rintro w' rfl)
   go_ret;exact⟨rfl,rfl⟩
 . obtain⟨k,g,h,rfl⟩:=TO a
   have c:MD (64*(k:Int))=k:=(by unfold MD;rw[AG a];omega);rw[c];clear c a d;go_enter func67,ntmps67;go_wp2_with (go_at_call 110;refine Ad (Wl k g h _) ?_;rintro w' rfl)
   go_ret;exact⟨aE Aa,rfl⟩
def Nb(g:Int)(w:Z):I E 71 #[Y V g] w fun e w'=>e=W (Y V (Ia g))/\w=w':=by
 by_cases c:g<0
 . have a:Ia g= -1:=AJ Aa
   rw[a];clear a;go_enter func71,ntmps71;go_wp2;go_ret;exact⟨rfl,rfl⟩
 . by_cases d:11<g
   . have a:Ia g= -1:=AJ Aa
     rw[a];clear a;go_enter func71,ntmps71;go_wp2;go_ret;exact⟨rfl,rfl⟩
   . by_cases b:g=0
     . subst b
       rw[show Ia 0=1 from rfl];clear c d;go_enter func71,ntmps71;go_wp2;go_ret;exact⟨rfl,rfl⟩
     . have a:Ia g=g*64:=by unfold Ia;rw[AG ⟨Aa,Aa⟩,AJ b]
       rw[a];have f:(g==0)=X:=(by simp[b]);have h:0<=g:=Aa;have i:g<=11:=Aa;clear a b;go_enter func71,ntmps71;go_wp2;go_ret;exact⟨aE Aa,rfl⟩
def WG(g:Int)(w:Z):I E 72 #[Y V g] w fun e w'=>e=W (Y V (Qm g))/\w=w':=by
 by_cases h:0<=g/\g<12
 . have a:Qm g=Ia g+1:=AG h
   rw[a];obtain⟨d,f⟩:=h;obtain⟨i,j⟩:=jp g d f;clear a;go_enter func72,ntmps72;go_wp2_with (go_at_call 71;refine Ad (Nb g _) ?_;rintro w' rfl)
   go_ret;exact⟨rfl,rfl⟩
 . have a:Qm g= -1:=AJ h
   have b:Ia g= -1:=AJ h;rw[a];have c:∀ w,I E 71 #[Y V g] w fun e w'=>e=W (Y V (-1))/\w=w':=fun w=>by
    have:=Nb g w;rw[b] at this;exact this
   clear a h b;go_enter func72,ntmps72;go_wp2_with (go_at_call 71;refine Ad (c _) ?_;rintro w' rfl)
   go_ret;exact⟨rfl,rfl⟩
def Yp(n:Int)(h:n<=9223372036854775807)(w:Z):I E 154 #[Y V n] w fun e w'=>e=W (AY (CZ n))/\w=w':=by
 by_cases c:n<0
 . have a:CZ n=X:=AM Aa
   rw[a];clear a;go_enter func154,ntmps154;go_wp2;go_ret;exact⟨rfl,rfl⟩
 . by_cases d:768<=n
   . have a:CZ n=X:=AM Aa
     rw[a];clear a;go_enter func154,ntmps154;go_wp2;go_ret;exact⟨rfl,rfl⟩
   . by_cases f:n<64
     . by_cases g:n<43
       . have a:CZ n=AQ:=AK Aa
         rw[a];clear a;go_enter func154,ntmps154;go_wp2;go_ret;exact⟨rfl,rfl⟩
       . have a:CZ n=(n==63):=by rw[Bool.eq_iff_iff];unfold CZ;simp only[Bh,beq_iff_eq];omega
         rw[a];clear a;go_enter func154,ntmps154;go_wp2;go_ret;exact⟨Ai,rfl⟩
     . have b:0<=n:=by omega
       have a:CZ n=decide (n%64<2):=(by rw[Bool.eq_iff_iff];unfold CZ;simp only[Bh];omega);rw[a];clear a;go_enter func154,ntmps154;go_wp2;go_ret;exact⟨Ai,rfl⟩
def Ks(n:Int)(a:n<=9223372036854775807)(B:Bool)(h:CZ n=B)(w:Z):I E 154 #[Y V n] w fun e w'=>e=W (AY B)/\w=w':=by
 rw[<- h];exact Yp n a w
def Df(O:Ag)(j:Nat):Bool:=decide ((O.getD j (0,0)).1=0)
def Dz(O:Ag):Nat->Nat
 |0=>0
 |k+1=>Dz O k+(if CZ (k:Int)=X/\Df O k=X then 1 else 0)
def G4(O:Ag)(L g:Nat):Int:=
 match (BE L).find? (fun k=>Df O ((g+k)%L)) with
 |some k=>(((g+k)%L:Nat):Int)
 |none=> -1
def Sm{O:Ag}{L g k:Nat}(f:k<L)(h:Df O ((g+k)%L)=AQ)(d:∀ j,j<k->Df O ((g+j)%L)=X):G4 O L g=(((g+k)%L:Nat):Int):=by
 have e:(BE L).find? (fun k=>Df O ((g+k)%L))=U k:=by
  rw[List.find?_eq_some_iff_append];refine⟨h,BE k,(BE (L-k-1)).map (k+1+·),?_,fun a c=>by simp[d a (Bq.1 c)]⟩;have b:L=k+(1+(L-k-1)):=Aa
  conv=>lhs;rw[b,List.range_add,List.range_add]
  simp[Dw]
 unfold G4;rw[e]
def YP{O:Ag}{L g:Nat}(a:∀ j,j<L->Df O ((g+j)%L)=X):G4 O L g= -1:=by
 have e:(BE L).find? (fun k=>Df O ((g+k)%L))=T:=by
  rw[List.find?_eq_none];intro x b;simp[a x (Bq.1 b)]
 unfold G4;rw[e]
def RSp(w:Z)(M:Nat->Prop)(p:A)(n:Int)(O:Ag):Prop:=
 ∃ b v,p=Ax (U ⟨b,0,T⟩)/\w.heap[b]? =U (Ay #[Y V n,v] 148 (0,0))/\OwR w 0 v O/\(∀ k,M k ↔ k=b\/v.ownBlock=U k)
section
variable {w:Z}{M:Nat->Prop}{p:A}{n:Int}{O:Ag}
def RSp.cells(h:RSp w M p n O)(c:0<O.length):∃ b g off cap,p=Ax (U ⟨b,0,T⟩)/\w.cell? ⟨b,0,T⟩=U (Y V n)/\w.cell? ⟨b,1,T⟩=U (Aw (U ⟨g,off,T⟩) O.length cap)/\
 ∀ j,j<O.length->w.cell? ⟨g,off+j*2,T⟩=U (Y .u16 (O.getD j (0,0)).1)/\w.cell? ⟨g,off+j*2+1,T⟩=U (Y .u16 (O.getD j (0,0)).2):=by
 obtain⟨b,v,rfl,a,i,_⟩:=h;obtain⟨g,off,cap,rfl,_,d⟩:=i.sl.at c;refine⟨b,g,off,cap,rfl,?_,?_,fun j f=>?_⟩
 . rw[AD _ _ _ _ _ _ a];rfl
 . rw[AD _ _ _ _ _ _ a];rfl
 . exact d j f
end
def GZ(L:Nat)(g:Int):Nat:=if g<0\/(L:Int)<=g then 0 else g.toNat
def Iq(size:Int)(w:Z)(h:1<=size/\size<=8):
 I E 174 #[Y V size] w fun e w'=>e=W (AY AQ)/\w=w':=by
 obtain⟨a,b⟩:=h;go_enter func174,ntmps174;go_wp2;go_ret;exact⟨rfl,rfl⟩
def Y2(size:Int)(w:Z)(h:¬ (1<=size/\size<=8)):
 I E 174 #[Y V size] w fun e w'=>e=W (AY X)/\w=w':=by
 by_cases b:1<=size
 . have a:¬ size<=8:=fun a=>h ⟨b,a⟩
   go_enter func174,ntmps174;go_wp2;go_ret;exact⟨rfl,rfl⟩
 . go_enter func174,ntmps174
   go_wp2;go_ret;exact⟨rfl,rfl⟩
def FK{w:Z}{v:A}{l:Ab}(B:BSl w v l)(hl:l.length<=140737488355300)(n size:Int)(k:Nat)(hk:k<=8)(Oo:1<=k)(P:size=k)(h0:0<=n)(h1:n<18446744073709551616):
 I E 133 #[v,Y .u64 n,Y V size] w (J8 w (l ++ B8 n k)):=by
 subst P;obtain⟨ao,a0,rfl,O⟩:=B.shape;have q:=B.1;have z:=Fm B (w1:=w.alloc (Ay (AW (l.length+k) (Y .u8 0)) 5)) (fun p hp=>Dh w _ p hp) l.length;rw[BZ] at z;obtain⟨N,o⟩:=nm l.length;rw[<- o] at hl O z |-
 have s:(w.alloc (Ay (AW (N+k) (Y .u8 0)) 5)).heap[w.heap.size]? =U (Ay (AI (N+k) (Y .u8 0)).toArray 5 (0,0)):=by
  rw[AC];simp
 have r:(l.map (Y .u8)).length=N:=by rw[Bn,<- o]
 have t:N=Nat.min N N:=Ai;have K:0+(l.map (Y .u8)).length<=(AI (N+k) (Y .u8 0)).length:=by rw[Bn,<- o];simp
 have y:=wN o;have S:=wN s;have Q:=wN r;have W:=wN t;have R:=wN K;have X:=wN z;have C:=wN q;have H:AB w.heap.size w (w.alloc (Ay (AW (N+k) (Y .u8 0)) 5)):=(AP _ _).alloc (AE _) _;have a1:k<=9223372036854775807:=Aa;have a4:N+k<=200000000000000:=Aa;clear o s r t K z q B;go_enter func133,ntmps133
 go_wp2_with (first|(go_at_call 174;refine Ad (Iq _ _ ⟨Aa,Aa⟩) ?_;rintro w' rfl)|(at_make;refine DA _ rfl _ _ rfl _ _ N (N+k) rfl rfl rfl (by push_cast;rfl) Aa Aa ?_)|(with_reducible refine Dc rfl _ _ 77 77 rfl 5 underlying77 Ac _ _ _ _ _ _ rfl rfl w.heap.size 0 (AI (N+k) (Y .u8 0)) 5 S.out (l.map (Y .u8)) N Q.out W.out (fun h=>⟨rfl,X.out h⟩) R.out (ints_oneCell _ _) ?_;intro M d g))
 have F:AB w.heap.size w M:=H.trans (g.below (AE _));have J:OB M w.heap.size (Aw (U ⟨w.heap.size,0,T⟩) N (N+k)) l:=by
  have h3:=d.out;rw[y.out];refine OB.of_heap (rest:=AI k (Y .u8 0)) C.out (AE _) ?_ Ai (by simp only[maxLen];have:=y.out;omega);rw[h3];simp[splice,y.out]
 clear d g
 go_loopw [1,7,22] (fun c u i wr=>∃ (j:Nat) (m:Int),j<=k/\i=Y V j/\c=Y .u64 m/\0<=m/\m<18446744073709551616/\Hid (m=n / 2 ^ (8*j))/\Hid (OB wr w.heap.size u (l ++ B8 n j))/\AB w.heap.size w wr)
  (fun _ _ i _=>k-(intOf i).toNat)
 case atStart=>exact⟨0,n,Aa,rfl,rfl,h0,h1,by simp[Hid],by simp[Hid,Hn];exact J,F⟩
 case round=>
  obtain⟨j,m,hj,rfl,rfl,Ij,a3,f,L,b⟩:=hrel;by_cases a2:j<k
  . have a:(l ++ B8 n j).length+1<=140737488355328:=by rw[AO,Bp,<- y.out];omega
    have D:=wN a;clear a;go_wp2_with (at_builtin;refine FM wr _ rfl _ _ rfl w.heap.size _ _ rfl L.out ⟨Aa,Aa⟩ rfl D.out b.size ?_;intro v' w3 x G)
    go_roundw
    case rel=>
     refine⟨j+1,m / 256,Aa,by go_num,rfl,Aa,Aa,?_,?_,b.trans (G)⟩
     . show _=_
       rw[f.out,<- kX];rfl
     . show OB _ _ _ _
       rw[Hl,<- Bj,<- f.out];exact x
    case measure=>simp[intOf];omega
  . go_wp2_with fail
    go_ret;obtain rfl:j=k:=Aa;exact⟨_,rfl,L.out,b⟩
def ar{w:Z}{b off cap:Nat}{l:Ab}(d:Fv l)(A:l.length<=140737488355300)
 (p:∀ j,j<l.length->w.cell? ⟨b,off+j,T⟩=U (Y .u8 (l.getD j 0))) (a k:Nat) (G:1<=k) (L:k<=8) (F:a+k<=l.length):
 I E 183 #[Aw (U ⟨b,off,T⟩) l.length cap,Y V a,Y V k] w fun e w'=>e=W (AT #[Y .u64 (Cs l a k),AY AQ])/\w=w':=by
 obtain⟨N,n⟩:=nm l.length;rw[<- n] at A p F |-
 have u:=wN n;have t:=wN p;have s:=wN (Da d);have g:=wN d;clear n p d;go_enter func183,ntmps183;go_wp2_with (go_at_call 174;refine Ad (Iq _ _ ⟨Aa,Aa⟩) ?_;rintro w' rfl)
 go_loop [8,9] (fun c i=>∃ (j:Nat) (m:Int),j<=k/\i=Y V ((j:Int)-1)/\c=Y .u64 m/\Hid (m=Cs l (a+j) (k-j)))
  (fun _ i=>(intOf i+1).toNat)
 case atStart=>exact⟨k,0,Aa,rfl,rfl,by simp[Hid,RH]⟩
 case round=>
  obtain⟨j,m,K,rfl,rfl,h⟩:=hrel;have o:=EI s.out (a+j) (k-j);rw[<- h.out] at o;by_cases B:1<=j
  . have D:=Hi (show k-j<=7 from Aa)
    have C:m<72057594037927936:=Aa;have y:=o.1;have r:=g.out (a+j-1);have z:=t.out (a+j-1) Aa;obtain⟨x,f⟩:=nm (l.getD (a+j-1) 0);rw[<- f] at r z;have v:=wN f;clear f o D;have H:(a:Int)+((j:Int)-1)<(N:Int):=Aa;have J:((a:Int)+((j:Int)-1)).toNat=a+j-1:=Aa;go_wp2_with fail
    go_round
    case rel=>
     refine⟨j-1,_,Aa,by congr 1;omega,rfl,?_⟩;show _=_
     have q:=qZ m x 8 y r.1 Aa Aa Aa;rw[show m*2 ^ 8=m*256 from rfl] at q;rw[q,show k-(j-1)=k-j+1 from Aa,Sy l _ _ (by have:=u.out;omega),show a+(j-1)=a+j-1 from Aa,<- v.out,show a+j-1+1=a+j from Aa,<- h.out];omega
    case measure=>simp[intOf];omega
  . go_wp2_with fail
    go_ret2;obtain rfl:j=0:=Aa;exact⟨by rw[h.out];simp,rfl⟩
def nW{w:Z}{c:Option Addr}{len cap:Nat}(m:len<=140737488355300)(a k:Int)(g: -9223372036854775808<=a)(i:a<=9223372036854775807)(h:¬ (1<=k/\k<=8/\0<=a/\a+k<=len)):
 I E 183 #[Aw c len cap,Y V a,Y V k] w fun e w'=>e=W (AT #[Y .u64 0,AY X])/\w=w':=by
 by_cases b:1<=k/\k<=8
 . by_cases j:0<=a
   . have l:(len:Int)-k<a:=by omega
     have n:=b.2;have f:=b.1;go_enter func183,ntmps183;go_wp2_with (go_at_call 174;refine Ad (Iq _ _ b) ?_;rintro w' rfl)
     go_ret2;exact⟨rfl,rfl⟩
   . have d:a<0:=by omega
     go_enter func183,ntmps183;go_wp2_with (go_at_call 174;refine Ad (Iq _ _ b) ?_;rintro w' rfl)
     go_ret2;exact⟨rfl,rfl⟩
 . go_enter func183,ntmps183
   go_wp2_with (go_at_call 174;refine Ad (Y2 _ _ b) ?_;rintro w' rfl)
   go_ret2;exact⟨rfl,rfl⟩
def bR{w:Z}{b off cap:Nat}{l:Ab}(s:l.length<=140737488355300)(d:Fv l)
 (h:∀ j,j<l.length->w.cell? ⟨b,off+j,T⟩=U (Y .u8 (l.getD j 0))):
 I E 184 #[Aw (U ⟨b,off,T⟩) l.length cap] w fun e w'=>e=W (Y .u32 (Fs l))/\w=w':=by
 obtain⟨N,g⟩:=nm l.length;rw[<- g] at s h |-
 have o:=wN g;have p:=wN h;have f:=wN d;clear g h d;go_enter func184,ntmps184;go_wp2_with fail
 go_loop [3,8] (fun c i=>∃ (j:Nat) (m:Int),j<=N/\i=Y V j/\c=Y .u32 m/\0<=m/\m<4294967296/\Hid (m=Fs (l.take j))) (fun _ i=>N-(intOf i).toNat)
 case atStart=>exact⟨0,_,Aa,rfl,rfl,Aa,Aa,rfl⟩
 case round=>
  obtain⟨j,m,y,rfl,rfl,v,t,n⟩:=hrel;by_cases k:j<N
  . have u:=f.out j
    have r:=p.out j k;obtain⟨x,a⟩:=nm (l.getD j 0);rw[<- a] at u r;have q:=wN a;clear a;go_wp2_with fail
    go_round
    case rel=>
     refine⟨j+1,_,Aa,by go_num,rfl,(FF m x).1,(FF m x).2,?_⟩;show _=_
     rw[Sd l j (by have:=o.out;omega),<- n.out,<- q.out];rfl
    case measure=>simp[intOf];omega
  . go_wp2_with fail
    go_ret;exact⟨Je (by rw[n.out,A2 (by have:=o.out;omega)]),rfl⟩
def fL{w:Z}{a:Option Addr}{cap:Nat}:
 I E 184 #[Aw a 0 cap] w fun e w'=>e=W (Y .u32 (Fs []))/\w=w':=by
 go_enter func184,ntmps184;go_wp2_with fail
 refine wp_loop_rounds 1 ?_;rw[rounds_succ];go_wp2_with fail
 go_ret;exact⟨rfl,rfl⟩
def kG{w:Z}{v:A}{l:Ab}(d:BSl w v l)(i:l.length<=140737488355300):
 I E 184 #[v] w fun e w'=>e=W (Y .u32 (Fs l))/\w=w':=by
 by_cases f:l.length=0
 . obtain⟨m,c,rfl,_⟩:=d.shape
   obtain rfl:l=[]:=A3 f;exact fL
 . rcases d.2 with⟨_,rfl⟩| ⟨⟨b,k,a⟩,c,rfl,_,g⟩
   . simp at f
   . obtain rfl:a=T:=(g 0 Aa).2.1
     exact bR i d.1 fun j h=>(g j h).2.2
def cR{w:Z}{b off cap:Nat}{l:Ab}(s:l.length<=140737488355300)(d:Fv l)
 (h:∀ j,j<l.length->w.cell? ⟨b,off+j,T⟩=U (Y .u8 (l.getD j 0))):
 I E 155 #[Aw (U ⟨b,off,T⟩) l.length cap] w fun e w'=>e=W (Y .u32 (Fs l))/\w=w':=by
 obtain⟨N,g⟩:=nm l.length;rw[<- g] at s h |-
 have o:=wN g;have p:=wN h;have f:=wN d;clear g h d;go_enter func155,ntmps155;go_wp2_with fail
 go_loop [3,7] (fun c i=>∃ (j:Nat) (m:Int),j<=N/\i=Y V j/\c=Y .u32 m/\0<=m/\m<4294967296/\Hid (m=Fs (l.take j))) (fun _ i=>N-(intOf i).toNat)
 case atStart=>exact⟨0,_,Aa,rfl,rfl,Aa,Aa,rfl⟩
 case round=>
  obtain⟨j,m,y,rfl,rfl,v,t,n⟩:=hrel;by_cases k:j<N
  . have u:=f.out j
    have r:=p.out j k;obtain⟨x,a⟩:=nm (l.getD j 0);rw[<- a] at u r;have q:=wN a;clear a;go_wp2_with fail
    go_round
    case rel=>
     refine⟨j+1,_,Aa,by go_num,rfl,(FF m x).1,(FF m x).2,?_⟩;show _=_
     rw[Sd l j (by have:=o.out;omega),<- n.out,<- q.out];rfl
    case measure=>simp[intOf];omega
  . go_wp2_with fail
    go_ret;exact⟨Je (by rw[n.out,A2 (by have:=o.out;omega)]),rfl⟩
def cQ{w:Z}{a:Option Addr}{cap:Nat}:
 I E 155 #[Aw a 0 cap] w fun e w'=>e=W (Y .u32 (Fs []))/\w=w':=by
 go_enter func155,ntmps155;go_wp2_with fail
 refine wp_loop_rounds 1 ?_;rw[rounds_succ];go_wp2_with fail
 go_ret;exact⟨rfl,rfl⟩
def ii{w:Z}{v:A}{l:Ab}(d:BSl w v l)(i:l.length<=140737488355300):
 I E 155 #[v] w fun e w'=>e=W (Y .u32 (Fs l))/\w=w':=by
 by_cases f:l.length=0
 . obtain⟨m,c,rfl,_⟩:=d.shape
   obtain rfl:l=[]:=A3 f;exact cQ
 . rcases d.2 with⟨_,rfl⟩| ⟨⟨b,k,a⟩,c,rfl,_,g⟩
   . simp at f
   . obtain rfl:a=T:=(g 0 Aa).2.1
     exact cR i d.1 fun j h=>(g j h).2.2
def QU(l:Ab)(a k:Int):Int:=if 1<=k/\k<=8/\0<=a/\a+k<=l.length then Cs l a.toNat k.toNat else 0
def cp(l:Ab)(a k:Int):Bool:=decide (1<=k/\k<=8/\0<=a/\a+k<=l.length)
def Mu{w:Z}{v:A}{l:Ab}(f:BSl w v l)(i:l.length<=140737488355300)(a k:Int)(m: -9223372036854775808<=a)(n:a<=9223372036854775807):
 I E 183 #[v,Y V a,Y V k] w fun e w'=>e=W (AT #[Y .u64 (QU l a k),AY (cp l a k)])/\w=w':=by
 by_cases h:1<=k/\k<=8/\0<=a/\a+k<=l.length
 . rcases f.2 with⟨_,rfl⟩| ⟨⟨b,p,d⟩,c,rfl,_,g⟩
   . simp at h;omega
   . obtain rfl:d=T:=(g 0 Aa).2.1
     have:=ar (cap:=c) f.1 i (fun j o=>(g j o).2.2) a.toNat k.toNat Aa Aa Aa;rw[show((a.toNat:Nat):Int)=a from Aa,show((k.toNat:Nat):Int)=k from Aa] at this;simp only[QU,cp,AG h,AK h];exact this
 . obtain⟨q,c,rfl,_⟩:=f.shape
   simp only[QU,cp,AJ h,AM h];exact nW i a k m n h
def Iw{w:Z}{v:A}{l:Ab}(q:BSl w v l)(D:l.length<=140737488355300)(n size:Int)(k:Nat)(P:k<=8)(J:1<=k)(x:size=k)(L:0<=n)(M:n<18446744073709551616):
 I E 112 #[v,Y .u64 n,Y V size] w (J8 w (l ++ B8 n k)):=by
 subst x;obtain⟨K,C,t,_⟩:=q.shape;have a:([]:Ab).length+l.length<=140737488355328:=Ak;obtain⟨N,h⟩:=nm l.length;rw[<- h] at t D;subst t;have B:=wN q;have y:=wN a;have z:=wN h;clear q a h;go_enter func112,ntmps112;go_wp2_with (at_builtin;refine B0 _ rfl _ _ rfl w.heap.size _ [] rfl (Qv w) w _ l rfl B.out (fun p G=>Dh w _ p G) y.out Ai ?_;intro R H b d _)
 have o:AB w.heap.size w H:=((AP _ _).alloc (AE _) _).trans d;rw[List.nil_append] at b;clear d
 go_loopw [7,20] (fun u i wr=>∃ j:Nat,j<=k/\i=Y V j/\Hid (OB wr w.heap.size u (l ++ B8 n j))/\AB w.heap.size w wr)
  (fun _ i _=>k-(intOf i).toNat)
 case atStart=>exact⟨0,Aa,rfl,by simp[Hid,Hn];exact b,o⟩
 case round=>
  obtain⟨j,O,rfl,s,c⟩:=hrel;by_cases F:j<k
  . have a:(l ++ B8 n j).length+1<=140737488355328:=by rw[AO,Bp,<- z.out];omega
    have g:=wN a;have r:0<=n / 2 ^ (8*j)%256/\n / 2 ^ (8*j)%256<=255:=Aa;clear a;go_wp2_with (at_builtin;refine FM wr _ rfl _ _ rfl w.heap.size _ _ rfl s.out r rfl g.out c.size ?_;intro Q S f m)
    go_roundw
    case rel=>
     refine⟨j+1,Aa,by go_num,?_,c.trans m⟩;show OB _ _ _ _
     rw[Hl,<- Bj];exact f
    case measure=>simp[intOf];omega
  . go_wp2_with fail
    go_ret;obtain rfl:j=k:=Aa;exact⟨_,rfl,s.out,c⟩
def Ha(m:Nat):Builtin.zeroCells (Y .u8 0).cells m=AW m (Y .u8 0):=by
 apply Array.ext
 . simp[Builtin.zeroCells,A.cells]
 . intro j a b
   simp[Builtin.zeroCells,A.cells,Nat.mod_one]
def RR:V.wrap 0=0:=Af
def Nq(w:Z)(B:Nat)(ty:Cn)(v:A)(n:Nat)(l:List A)(j:w.ownsRow B 5 1 v n l)(m:Nat)(R:n+m<=140737488355328)(hB:B<=w.heap.size):
 ∃ v' w',(Builtin.append_ #[77,3] ty #[v,Y V m]).run E w=.ok v' w'/\w'.ownsRow B 5 1 v' (n+m) (l ++ AI m (Y .u8 0))/\w.grownBy w' v.ownBlock:=by
 obtain⟨i,q,G,H,s⟩:=Bs IA;have C:l.length=n:=by simpa using j.1
 have o:V.wrap (m:Int)=m:=by rw[IntKind.wrap_i64];omega
 have p:¬ (m:Int)<0:=Aa;have O:¬ 281474976710656<(m:Int):=Aa;have z:(l ++ AI m (Y .u8 0)).length=(n+m)*1:=by simp[C]
 have h:∀ (b:Nat),b<n+m->∀ (y:Option Nat),
  (w.drew.alloc (Ay (l.toArray ++ AW m (Y .u8 0) ++ AW (grownCap w (n+m) b 5-(n+m)) (Y .u8 0)) 5)).ownsRow B 5 1
    (Aw (U ⟨w.heap.size,0,T⟩) (n+m) (grownCap w (n+m) b 5)) (n+m) (l ++ AI m (Y .u8 0))/\
  w.grownBy (w.drew.alloc (Ay (l.toArray ++ AW m (Y .u8 0) ++ AW (grownCap w (n+m) b 5-(n+m)) (Y .u8 0)) 5)) y:=by
  intro b ho y;have L:=grownCap_ge w (n+m) b 5;have F:grownCap w (n+m) b 5<=maxLen:=grownCap_le_maxLen w (n+m) b 5 (by simp only[maxLen];omega);refine⟨⟨z,A8 ⟨w.heap.size,_,_,rfl,hB,AC w.drew _,L,F,?_,?_⟩⟩,⟨rfl,rfl,rfl,Ai,fun k M _=>@Go.heap_alloc_old w.drew _ _ M⟩⟩
  . simp[C];omega
  . simp only[Array.toList_append,Array.toList_replicate]
    rw[<- z,DC]
    . rfl
 have hz:(if m=0 then (pure #[]:Sem (Array A)) else pure (Builtin.zeroCells (Y .u8 0).cells m))=pure (AW m (Y .u8 0)):=by
  by_cases Q:m=0
  . subst Q;simp
  . rw[AJ Q,Ha]
 rcases j.2 with⟨rfl,rfl⟩| ⟨g,a,d,rfl,I,K,S,F,Jq,ud⟩
 . obtain rfl:l=[]:=A3 C
   by_cases x:m=0
   . subst x
     refine⟨Aw T 0 0,w,?_,Dt w B 5 1,⟨rfl,rfl,rfl,AE _,fun _ _ _=>rfl⟩⟩;simp[Builtin.append_,Ck underlying77,Ck underlying3,sizeOf,typeInfo,q,s,asInt,asIntOf,RR]
   . have f:=h 0 Aa (A.ownBlock (Aw T 0 0))
     have D:¬ (281474976710656<Builtin.nextslicecap m 0*1):=(by rw[nextslicecap_zero Aa];omega);simp only[BC,List.nil_append] at f |-
     refine⟨_,_,?_,f.1,f.2⟩;have J:¬ 9223372036854775807<(m:Int):=Aa;simp only[Nat.mul_one] at D;simp[Builtin.append_,Ck underlying77,Ck underlying3,sizeOf,typeInfo,zeroValue,q,G,H,s,asInt,asIntOf,o,p,O,x,J,D,Question.forced,run_firstCells_none,newRow,grownCap];simp[Ha]
 . by_cases c:n+m<=a
   . have N:=run_storeCells_at E g n 5 (AI m (Y .u8 0)) 0 d w K Ak (fun u hu=>by rw[B6 hu];rfl)
     refine⟨_,w.setRow g (d.toList.take n ++ AI m (Y .u8 0) ++ d.toList.drop (n+m)).toArray,?_,⟨z,A8 ⟨g,a,_,rfl,I,CJ w g d _ 5 _ K,c,F,?_,?_⟩⟩,⟨rfl,rfl,rfl,Ai,fun k _ M=>setRow_other w g k _ (fun e=>M (by simp[A.ownBlock,e]))⟩⟩
     . by_cases x:m=0
       . subst x
         simp[Builtin.append_,Ck underlying77,Ck underlying3,sizeOf,typeInfo,q,s,asInt,asIntOf,RR,S,storeCells];exact(setRow_self w g d 5 (0,0) K).symm
       . simp[Builtin.append_,Ck underlying77,Ck underlying3,sizeOf,typeInfo,zeroValue,q,G,H,s,asInt,asIntOf,o,p,O,x,c]
         rw[Ha,Array.toList_replicate,Cd,BC,N];simp
     . simp;omega
     . have ht:d.toList.take n=l:=by simpa using ud
       rw[ht,<- z,DC rfl]
   . have f:=h a Aa (A.ownBlock (Aw (U ⟨g,0,T⟩) n a))
     refine⟨_,_,?_,f.1,f.2⟩;have hn:¬ (n+m<=a):=c;have W:m≠0:=Aa;have t:¬ (9223372036854775807<((n:Int)+(m:Int))):=Aa;have D:=growslice_fits (bytes:=1) (show a<n+m from Aa) Aa;have r:¬ (281474976710656<Builtin.nextslicecap (n+m) a):=Aa;have X:=run_firstCells_some (P:=E) w.drew 1 n ⟨g,0,T⟩ n a l (by simpa using C) (by
      have hc:w.ownsRow B 5 1 (Aw (U ⟨g,0,T⟩) n a) n l:=j;exact hc.cells (g:=g) rfl)
     simp[Builtin.append_,Ck underlying77,Ck underlying3,sizeOf,typeInfo,zeroValue,q,G,H,s,asInt,asIntOf,o,p,O,W,hn,t,r,Question.forced,X,newRow,grownCap,Ha]
def G3(w:Z){d:Array BK}{rest:List BK}{o:BK}{a:Act}{Q:Exit->Act->Z->Prop}(g:o.guard=T)(s x:Operand)
 (r:o.op=.call { callee:=.builtin .append,args:=#[s,x],argTypes:=#[77,3] })
 (B:Nat) (v:A) (l:Ab) (u:a.eval s=v) (b:OB w B v l) (C:Int) (m:Nat) (y:a.eval x=Y V C) (n:C=m) (c:l.length+m<=140737488355328) (f:B<=w.heap.size)
 (h:∀ v' w',OB w' B v' (l ++ AI m 0)->AB B w w'->Cj E d Q rest (a.put o.dst v') w'):Cj E d Q (o :: rest) a w:=by
 subst n;obtain⟨v',w',t,i,j⟩:=Nq w B o.type v l.length _ b.2 m c f;refine CH g fun K p=>?_
 unfold BK.wp execOp;simp only[r,resolve,invoke,builtin,Dm,Sem.run_pure,Result.andThen_ok,Fe,DT,II,u,y,t];refine p _ _ (h v' w' ⟨DQ b.1 (Db m),?_⟩ ((AP _ _).grown j f fun k q=>(b.2.lt k q).1))
 simpa using i
def O5(l:Ab)(w:Z)(e:Ending)(w':Z):Prop:=
 ∃ v,e=W (AT #[v,Y V 0])/\OB w' w.heap.size v (BV l)/\AB w.heap.size w w'
def XC{a w:Z}{v:A}{l:Ab}(f:BSl a v l)(c:AB a.heap.size a w)(d:l.length<=140737488355300)(S:Int)(b:S=Fs l):
 I E 184 #[v] w fun e w'=>e=W (Y .u32 S)/\w=w':=by rw[b];exact kG (f.below c) d
def tU{w:Z}{v:A}{l:Ab}(c:BSl w v l)(d:l.length=252)(S:Int)(a:S=Fs l):
 I E 133 #[v,Y .u64 S,Y V 4] w (J8 w (l ++ B8 (Fs l) 4)):=by
 have b:=FR l;rw[a];exact FK c Aa _ 4 4 Aa Aa rfl b.1 Aa
def tK{w:Z}{v:A}{l:Ab}(c:BSl w v l)(d:l.length=252)(S:Int)(a:S=Fs l):
 I E 112 #[v,Y .u64 S,Y V 4] w (J8 w (l ++ B8 (Fs l) 4)):=by
 have b:=FR l;rw[a];exact Iw c Aa _ 4 4 Aa Aa rfl b.1 Aa
def Kr{w:Z}{v:A}{l:Ab}(u:BSl w v l)(Q:l.length<=252):I E 187 #[v] w (O5 l w):=by
 obtain⟨ao,G,rfl,X⟩:=u.shape;obtain⟨M,D⟩:∃ M:Nat,M=252:=⟨_,rfl⟩;have R:(252:Int)=(M:Int):=Aa;have m:=u.1;have C:=Fm u (w1:=w.alloc (Ay (AW M (Y .u8 0)) 5)) (fun p hp=>Dh w _ p hp) l.length;rw[BZ] at C;have d:=EN l Q;obtain⟨F,t⟩:=nm (DI l);obtain⟨S,H⟩:=nm (Fs F);have rS:=FR F;rw[<- H] at rS;have V:BV l=F ++ B8 (Fs F) 4:=by rw[t];rfl
 rw[<- t] at d;obtain⟨N,k⟩:=nm l.length;rw[<- k] at Q X |-
 have o:(w.alloc (Ay (AW M (Y .u8 0)) 5)).heap[w.heap.size]? =U (Ay (AI M (Y .u8 0)).toArray 5 (0,0)):=by
  rw[AC];simp
 have n:(l.map (Y .u8)).length=N:=by rw[Bn,<- k]
 have q:N=Nat.min N M:=(FL Aa).symm;have L:0+(l.map (Y .u8)).length<=(AI M (Y .u8 0)).length:=by rw[Bn,<- k,D];rw[Bg];omega
 have HN:=wN k;have b:=wN D;have z:=wN R;have rT:M<=200000000000000:=Aa;have a0:N<=M:=Aa;have HG:=wN o;have HC:=wN n;have HM:=wN q;have HF:=wN L;have HP:=wN C;have x:=wN m;have f:=wN t;have i:=wN H;have a:=wN d;have y:=wN V;have K:AB w.heap.size w (w.alloc (Ay (AW M (Y .u8 0)) 5)):=(AP _ _).alloc (AE _) _;clear k o n q L C m u t H d V D R;go_enter func187,ntmps187
 go_wp2_with (first
  |(at_make;refine CT _ rfl _ _ rfl _ M rfl rfl z.out rT ?_)
  |(with_reducible refine Dc rfl _ _ 77 77 rfl 5 underlying77 Ac _ _ _ _ _ _ rfl rfl w.heap.size 0 (AI M (Y .u8 0)) 5 HG.out (l.map (Y .u8)) N HC.out HM.out (fun h=>⟨rfl,HP.out h⟩) HF.out (ints_oneCell _ _) ?_
    intro W g j;have c:AB w.heap.size w W:=K.trans (j.below (AE _));have r:OB W w.heap.size (Aw (U ⟨w.heap.size,0,T⟩) M M) F:=by
     have O:=g.out;have h4:splice (AI M (Y .u8 0)) 0 (l.map (Y .u8))=F.map (Y .u8) ++ []:=by
      rw[f.out,DI,b.out.symm];simp[splice,<- HN.out]
     rw[h4] at O;have P:=OB.of_heap (cap:=M) (rest:=[]) (l:=F) (B:=w.heap.size) (by rw[f.out];exact DQ x.out (Db _)) (AE _) O (by rw[a.out,b.out];rfl) (by rw[b.out];decide);rw[a.out,<- b.out] at P;exact P
    clear g j)|(go_at_call 184;refine Ad (XC r.bsl (AP _ _) (by rw[a.out];omega) S i.out) ?_;rintro w' rfl)|(go_at_call 133;refine(tU r.bsl a.out S i.out).mono ?_;rintro e w3 ⟨v3,rfl,s,J⟩))
 go_ret2;refine⟨v3,rfl,?_,c.trans (J.mono c.size)⟩;rw[y.out];exact s.more c.size
def Sk{w:Z}{v:A}{l:Ab}(x:BSl w v l)(z:l.length<=252):I E 114 #[v] w (O5 l w):=by
 obtain⟨R,J,B,Q⟩:=x.shape;have f:=EN l z;obtain⟨F,k⟩:=nm (DI l);obtain⟨S,r⟩:=nm (Fs F);have L:=FR F;rw[<- r] at L;have C:BV l=F ++ B8 (Fs F) 4:=by rw[k];rfl
 rw[<- k] at f;have b:([]:Ab).length+l.length<=140737488355328:=Ak;obtain⟨N,q⟩:=nm l.length;rw[<- q] at z B;subst B;have y:=wN q;have H:=wN x;have G:=wN b;have m:=wN k;have h:=wN r;have g:=wN f;have n:=wN C;have D:(252:Int)-N=((252-N:Nat):Int):=Aa;have o:=wN D;clear q x k r f C b D;go_enter func114,ntmps114
 go_wp2_with (first
  |(at_builtin;(refine B0 _ rfl (.tmp 8) (.tmp 9) rfl w.heap.size _ [] rfl (Qv w) w _ l rfl H.out (fun p K=>Dh w _ p K) G.out Ai ?_);intro T O c s _;rw[List.nil_append] at c
    have i:AB w.heap.size w O:=((AP _ _).alloc (AE _) _).trans s)
  |(at_builtin;(refine G3 _ rfl (.tmp 10) (.tmp 13) rfl w.heap.size _ l rfl c _ (252-N) rfl o.out (by rw[<- y.out];omega) i.size ?_);intro U P a t
    have d:AB w.heap.size w P:=i.trans t;rw[y.out,show l ++ AI (252-l.length) 0=DI l from rfl,<- m.out] at a)|(go_at_call 155;refine(ii a.bsl (by rw[g.out];omega)).mono ?_;rw[<- h.out];rintro e V ⟨rfl,rfl⟩)|(go_at_call 112;refine(tK a.bsl g.out S h.out).mono ?_;rintro e W ⟨M,rfl,j,u⟩))
 go_ret2;refine⟨M,rfl,?_,d.trans (u.mono d.size)⟩;rw[n.out];exact j.more d.size
end
end Go.Proofs.YtfpdajplfmakhaaGreatDoor
