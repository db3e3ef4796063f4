/- What the law rests on: part 1. -/
import Derived.WalkKit
import Derived.Laws.BitsAllLaws
import Derived.Test.YtedabomlfcghoaaGreatRows
import Derived.WalkSpells
import Derived.WalkLawsBesides
import Derived.BigQuiet
import Derived.Lib.Hide
import Derived.Laws.CopyOwn
import Derived.Laws.BytesArg
import Derived.Laws.AppendOwnNone
import Derived.Maps.AppendAt
import Derived.OwnWalk
import Derived.OpenShut
import Derived.SizedLaws
import Derived.Deep.QuietTactic
set_option linter.unusedVariables false
namespace Go.Proofs.YtedabomlfcghoaaGreat
theorem hid{p:Prop}(h:p):RowKit.Hid p:=Lib.hid h
end Go.Proofs.YtedabomlfcghoaaGreat
namespace Go.Proofs.YtedabomlfcghoaaGreat
set_option maxRecDepth 100000
open Go
def lowB(n:Int)(k:Nat):List Int:=(List.range k).map fun i=>n / 2 ^ (8*i)%256
theorem Zac(n:Int)(k:Nat):(lowB n k).length=k:=by simp[lowB]
theorem Zia(n:Int)(k:Nat):lowB n (k+1)=lowB n k ++ [n / 2 ^ (8*k)%256]:=by
 simp[lowB,List.range_succ]
theorem Zhz(n:Int):lowB n 0=[]:=rfl
theorem shr_step(n:Int)(j:Nat):n / 2 ^ (8*j) / 2 ^ 8=n / 2 ^ (8*(j+1)):=by
 rw[Int.ediv_ediv_of_nonneg (by exact Int.le_of_lt (Int.pow_pos (by decide))),<- Int.pow_add];rfl
def leB:List Int->Int
 |[]=>0
 |x :: r=>x+256*leB r
theorem leB_snoc(l:List Int)(x:Int):leB (l ++ [x])=leB l+x*256 ^ l.length:=by
 induction l with
 |nil=>simp[leB]
 |cons y r ih=>
  simp only[List.cons_append,leB,ih,List.length_cons,Int.pow_succ];rw[Int.mul_add,Int.mul_left_comm 256 x,Int.mul_comm 256 (256 ^ r.length)];omega
def getV(l:List Int)(at_ size:Nat):Int:=leB ((l.drop at_).take size)
theorem getV_head(l:List Int)(a k:Nat)(h:a<l.length):getV l a (k+1)=l.getD a 0+256*getV l (a+1) k:=by
 unfold getV;rw[List.drop_eq_getElem_cons h,List.take_succ_cons,leB];simp[List.getD_eq_getElem?_getD,h]
theorem getV_zero(l:List Int)(a:Nat):getV l a 0=0:=by simp[getV,leB]
theorem leB_bound(l:List Int)(h:∀ x∈l,0<=x/\x<=255):0<=leB l/\leB l<256 ^ l.length:=by
 induction l with
 |nil=>simp[leB]
 |cons x r ih=>
  have h1:=h x (by simp);have h2:=ih fun y hy=>h y (by simp[hy])
  simp only[leB,List.length_cons,Int.pow_succ];omega
theorem Zlg(k:Nat):(1:Int)<=256 ^ k:=by
 induction k with
 |zero=>simp
 |succ n ih=>rw[Int.pow_succ];omega
theorem Zgb{k m:Nat}(h:k<=m):(256:Int) ^ k<=256 ^ m:=by
 induction m with
 |zero=>obtain rfl:k=0:=by omega
        exact Int.le_refl _
 |succ n ih=>
  by_cases e:k=n+1
  . rw[e];exact Int.le_refl _
  . have:=ih (by omega)
    have:=Zlg n;rw[Int.pow_succ];omega
theorem Zcz{l:List Int}(h:∀ x∈l,0<=x/\x<=255)(a k:Nat):0<=getV l a k/\getV l a k<256 ^ k:=by
 have hb:=leB_bound ((l.drop a).take k) fun x hx=>h x (List.mem_of_mem_drop (List.mem_of_mem_take hx))
 have hl:((l.drop a).take k).length<=k:=by simp;omega
 have hp:=Zgb hl;unfold getV;omega
theorem or_low(a x:Int)(k:Nat)(ha:0<=a)(hx0:0<=x)(hx:x<2 ^ k)(hs:a*2 ^ k<18446744073709551616)(hxs:x<18446744073709551616):
 bits BinOp.or IntKind.u64 (a*2 ^ k) x=a*2 ^ k+x:=by
 obtain⟨m,rfl⟩:∃ m:Nat,a=m:=⟨a.toNat,by omega⟩;obtain⟨y,rfl⟩:∃ y:Nat,x=y:=⟨x.toNat,by omega⟩;have e:(m:Int)*2 ^ k=((m*2 ^ k:Nat):Int):=by push_cast;rfl
 have hy:y<2 ^ k:=by
  have:((y:Nat):Int)<((2 ^ k:Nat):Int):=by push_cast;exact hx
  omega
 rw[e] at hs |-
 rw[u64_or_nat _ _ (by omega) (by omega)];have:=Nat.shiftLeft_add_eq_or_of_lt hy m;rw[Nat.shiftLeft_eq] at this;rw[<- this];push_cast;rfl
def fnvStep(h c:Int):Int:=bits BinOp.xor IntKind.u32 h c*16777619%4294967296
def sumS(l:List Int):Int:=l.foldl fnvStep 2166136261
theorem Zdk(h c:Int):0<=fnvStep h c/\fnvStep h c<4294967296:=
 ⟨Int.emod_nonneg _ (by decide),Int.emod_lt_of_pos _ (by decide)⟩
theorem Zdp(l:List Int):0<=sumS l/\sumS l<4294967296:=by
 unfold sumS;rcases List.eq_nil_or_concat l with rfl| ⟨r,x,rfl⟩
 . exact⟨by decide,by decide⟩
 . rw[List.concat_eq_append,List.foldl_append]
   exact Zdk _ _
theorem sumS_take(l:List Int)(j:Nat)(h:j<l.length):sumS (l.take (j+1))=fnvStep (sumS (l.take j)) (l.getD j 0):=by
 unfold sumS;rw[List.take_succ_eq_append_getElem h,List.foldl_append];simp[List.getD_eq_getElem?_getD,h]
theorem pow256(j:Nat):(256:Int) ^ j=2 ^ (8*j):=by rw[Int.pow_mul];rfl
def Zcq(l:List Int):List Int:=l ++ List.replicate (252-l.length) 0
def Zal(l:List Int):List Int:=Zcq l ++ lowB (sumS (Zcq l)) 4
theorem Zcd(l:List Int)(h:l.length<=252):(Zcq l).length=252:=by simp[Zcq];omega
theorem Zbb(l:List Int)(h:l.length<=252):(Zal l).length=256:=by rw[Zal,List.length_append,Zcd l h,Zac]
def Zei(l:List Int):Prop:=l.length=256/\getV l 252 4=sumS (l.take 252)
theorem leB_lowB(n:Int)(k:Nat)(h:0<=n):leB (lowB n k)=n%256 ^ k:=by
 induction k with
 |zero=>simp[Zhz,leB,Int.emod_one]
 |succ k ih=>
  rw[Zia,leB_snoc,ih,Zac,<- pow256,Int.pow_succ];have hp:(0:Int)<256 ^ k:=by have:=Zlg k;omega
  generalize (256:Int) ^ k=p at*
  have h1:=Int.mul_ediv_add_emod n p;have h2:=Int.mul_ediv_add_emod (n / p) 256;have h3:=Int.emod_nonneg n (show p≠0 by omega);have h4:=Int.emod_lt_of_pos n hp;have h5:=Int.emod_nonneg (n / p) (show(256:Int)≠0 by decide);have h6:=Int.emod_lt_of_pos (n / p) (show(0:Int)<256 by decide);have h7:n=p*256*(n / p / 256)+(n%p+n / p%256*p):=by
   have e:p*(n / p)=p*(256*(n / p / 256)+n / p%256):=by rw[h2]
   rw[Int.mul_add,<- Int.mul_assoc] at e;rw[Int.mul_comm (n / p%256) p];omega
  have h8:n%p+n / p%256*p<p*256:=by
   have:n / p%256*p<=255*p:=Int.mul_le_mul_of_nonneg_right (by omega) (by omega);omega
  have h9:0<=n%p+n / p%256*p:=by
   have:=Int.mul_nonneg h5 (Int.le_of_lt hp);omega
  generalize hr:n%p+n / p%256*p=r at*
  conv=>rhs;rw[h7]
  rw[Int.mul_add_emod_self_left];exact(Int.emod_eq_of_lt h9 h8).symm
theorem getV_put(l:List Int)(n:Int)(k:Nat)(h:0<=n):getV (l ++ lowB n k) l.length k=n%256 ^ k:=by
 unfold getV;rw[List.drop_left,List.take_of_length_le (by rw[Zac];exact Nat.le_refl _),leB_lowB n k h]
theorem Zhw(l:List Int)(hl:l.length<=252):Zei (Zal l):=by
 have hf:=Zcd l hl;have hb:=Zdp (Zcq l);refine⟨Zbb l hl,?_⟩;have e1:(Zal l).take 252=Zcq l:=by rw[Zal,<- hf,List.take_left'];rfl
 rw[e1];have:getV (Zal l) 252 4=sumS (Zcq l)%256 ^ 4:=by
  have:=getV_put (Zcq l) (sumS (Zcq l)) 4 hb.1;rw[hf] at this;exact this
 rw[this];exact Int.emod_eq_of_lt hb.1 hb.2
end Go.Proofs.YtedabomlfcghoaaGreat
namespace Go.Proofs.YtedabomlfcghoaaGreat
set_option maxRecDepth 100000
open Go.RowKit
theorem Zjb{k:IntKind}{a b:Int}(h:a=b):Ending.returned (.int k a)=.returned (.int k b):=by rw[h]
theorem ret_bool{a b:Bool}(h:a=b):Ending.returned (.bool a)=.returned (.bool b):=by rw[h]
theorem Zab{B:Nat}{a w:World}(h:Below B a w)(n:Nat):Below B a (w.drewN n):=⟨h.os,h.tape,h.output,h.size,h.block⟩
theorem Zaa(w:World)(o:Obj):Below w.heap.size w (w.alloc o):=(Below.refl _ _).alloc (Nat.le_refl _) _
theorem Zai{P:Program}{f:FuncId}{args:Array Value}{w:World}{n:Nat}{v:Value}
 (h:Calls P f args (w.drewN n) fun e w'=>e=.returned v/\w.drewN n=w'):Calls P f args (w.drewN n) fun e w''=>e=.returned v/\∃ m,w''=w.drewN m:=
 Calls.quiet_of_same (h.mono fun _ _ ⟨he,hw⟩=>⟨he,hw.symm⟩)
def Byt(l:List Int):Prop:=∀ j,0<=l.getD j 0/\l.getD j 0<=255
theorem Zfb:Byt []:=fun j=>by simp
theorem Zax{l:List Int}(h:∀ x∈l,0<=x/\x<=255):Byt l:=fun j=>by
 by_cases hj:j<l.length
 . have:l.getD j 0∈l:=by simp[List.getD_eq_getElem?_getD,hj]
   exact h _ this
 . rw[List.getD_eq_getElem?_getD,List.getElem?_eq_none (by omega)];exact⟨by decide,by decide⟩
theorem Zbo{l:List Int}(h:Byt l):∀ x∈l,0<=x/\x<=255:=fun x hx=>by
 obtain⟨j,hj,rfl⟩:=List.getElem_of_mem hx;have:=h j
 simpa [List.getD_eq_getElem?_getD,hj] using this
theorem Zdc{a b:List Int}(ha:Byt a)(hb:Byt b):Byt (a ++ b):=
 Zax fun x hx=>(List.mem_append.1 hx).elim (Zbo ha x) (Zbo hb x)
theorem Zba(n:Nat):Byt (List.replicate n 0):=Zax fun x hx=>by rw[List.eq_of_mem_replicate hx];decide
theorem Zbs{l:List Int}(h:Byt l)(n:Nat):Byt (l.take n):=Zax fun x hx=>Zbo h x (List.mem_of_mem_take hx)
theorem Zkr{l:List Int}(h:Byt l)(n:Nat):Byt (l.drop n):=Zax fun x hx=>Zbo h x (List.mem_of_mem_drop hx)
def BSl(w:World)(v:Value)(l:List Int):Prop:=
 Byt l/\((v=.slice none 0 0/\l=[])\/∃ a cap,v=.slice (some a) l.length cap/\l.length<=cap/\∀ j,j<l.length->a.block<w.heap.size/\a.spot=none/\w.cell? ⟨a.block,a.off+j,none⟩=some (.int .u8 (l.getD j 0)))
theorem Zhd(w:World):BSl w (.slice none 0 0) []:=⟨Zfb,.inl ⟨rfl,rfl⟩⟩
theorem BSl.drewN{w:World}{v:Value}{l:List Int}(h:BSl w v l)(n:Nat):BSl (w.drewN n) v l:=h
theorem BSl.keep{w w':World}{v:Value}{l:List Int}(h:BSl w v l)(hs:w.heap.size<=w'.heap.size)(hb:∀ p:Addr,p.block<w.heap.size->w'.cell? p=w.cell? p):BSl w' v l:=by
 refine⟨h.1,?_⟩;rcases h.2 with h| ⟨a,cap,hv,hcap,hc⟩
 . exact .inl h
 . refine .inr ⟨a,cap,hv,hcap,fun j hj=>?_⟩
   obtain⟨h1,h2,h3⟩:=hc j hj;exact⟨Nat.lt_of_lt_of_le h1 hs,h2,by rw[hb _ (by exact h1),h3]⟩
theorem BSl.below{w w':World}{v:Value}{l:List Int}(h:BSl w v l)(hb:Below w.heap.size w w'):BSl w' v l:=
 h.keep hb.size fun _ hp=>hb.cell hp
theorem BSl.shape{w:World}{v:Value}{l:List Int}(h:BSl w v l):∃ ao cap,v=.slice ao l.length cap/\l.length<=cap:=by
 rcases h.2 with⟨hv,hl⟩| ⟨a,cap,hv,hcap,_⟩
 . exact⟨none,0,by rw[hv,hl];rfl,by rw[hl];exact Nat.le_refl _⟩
 . exact⟨some a,cap,hv,hcap⟩
def OB(w:World)(B:Nat)(v:Value)(l:List Int):Prop:=Byt l/\w.ownsRow B 5 1 v l.length (l.map (Value.int .u8))
theorem OB.bsl{w:World}{B:Nat}{v:Value}{l:List Int}(h:OB w B v l):BSl w v l:=by
 refine⟨h.1,?_⟩;rcases h.2.2 with⟨hv,hl⟩| ⟨g,cap,cur,hv,hg,hh,hnc,hcm,hcs,ht⟩
 . exact .inl ⟨hv,List.eq_nil_of_length_eq_zero hl⟩
 . refine .inr ⟨_,cap,hv,hnc,fun j hj=>⟨(Array.getElem?_eq_some_iff.1 hh).1,rfl,?_⟩⟩
   show w.cell? ⟨g,0+j,none⟩=_
   rw[Nat.zero_add,cell_of_row _ _ _ _ _ _ hh];have:(cur.toList.take (l.length*1))[j]? =(l.map (Value.int .u8))[j]? :=by rw[ht]
   rw[List.getElem?_take,if_pos (by omega)] at this
   simpa [List.getD_eq_getElem?_getD,hj] using this
theorem OB.more{w:World}{B B':Nat}{v:Value}{l:List Int}(h:OB w B v l)(hB:B'<=B):OB w B' v l:=by
 refine⟨h.1,h.2.1,?_⟩;rcases h.2.2 with h| ⟨g,cap,cur,hv,hg,r⟩
 . exact .inl h
 . exact .inr ⟨g,cap,cur,hv,Nat.le_trans hB hg,r⟩
theorem OB.below{w w':World}{B:Nat}{v:Value}{l:List Int}(h:OB w B v l)(hb:Below w.heap.size w w'):OB w' B v l:=by
 refine⟨h.1,h.2.1,?_⟩;rcases h.2.2 with h| ⟨g,cap,cur,hv,hg,hh,r⟩
 . exact .inl h
 . exact .inr ⟨g,cap,cur,hv,hg,by rw[hb.block g (Array.getElem?_eq_some_iff.1 hh).1];exact hh,r⟩
def NewB(w:World)(l:List Int)(e:Ending)(w':World):Prop:=
 ∃ v,e=.returned v/\OB w' w.heap.size v l/\Below w.heap.size w w'
theorem Zke:(Tryz.prog.info? 5).map (fun i=>(i.zero,i.size,i.bytes))=some (some (.int .u8 0),1,1):=by kernel_rfl
theorem made_u8(n:Nat):madeCells (Value.int .u8 0).cells n=Array.replicate n (.int .u8 0):=by
 apply Array.ext';rw[show(Value.int .u8 0).cells=#[Value.int .u8 0] from rfl,toList_madeCells_one];simp
theorem Zbn(w:World){ops:Array Oper}{rest:List Oper}{o:Oper}{a:Act}{Q:Exit->Act->World->Prop}
 (hg:o.guard=none) (l c:Operand) (hop:o.op=Op.makeSlice 30 l c) (L C:Int) (n m:Nat) (hl:a.eval l=.int .i64 L) (hc:a.eval c=.int .i64 C) (hL:L=n) (hC:C=m) (hnm:n<=m) (hn:m<=200000000000000)
 (hK:wpList Tryz.prog ops Q rest (a.put o.dst (.slice (some ⟨w.heap.size,0,none⟩) n m)) (w.alloc (.cells (Array.replicate m (.int .u8 0)) 5))):
 wpList Tryz.prog ops Q (o :: rest) a w:=by
 refine wpList_plain hg fun K hK'=>?_
 obtain⟨i,h2,h3,h4,h5⟩:=info_parts Zke;subst hL;subst hC;have hrun:=run_make (P:=Tryz.prog) w 30 5 i (.int .u8 0) Tryz.underlying30 h2 h3 .i64 .i64 n m (by omega) (by omega) (by rw[h5];omega) (by omega);unfold Oper.wp;simp only[Int.toNat_natCast,h4,Nat.mul_one,made_u8] at hrun;simp[execOp,hop,hl,hc,hrun,Result.andThen];exact hK' _ _ hK
theorem Zay(w:World){ops:Array Oper}{rest:List Oper}{o:Oper}{a:Act}{Q:Exit->Act->World->Prop}
 (hg:o.guard=none) (l c:Operand) (hop:o.op=Op.makeSlice 30 l c) (C:Int) (n:Nat) (hl:a.eval l=.int .i64 C) (hc:a.eval c=.int .i64 C) (hC:C=n) (hn:n<=200000000000000)
 (hK:wpList Tryz.prog ops Q rest (a.put o.dst (.slice (some ⟨w.heap.size,0,none⟩) n n)) (w.alloc (.cells (Array.replicate n (.int .u8 0)) 5))):
 wpList Tryz.prog ops Q (o :: rest) a w:=Zbn w hg l c hop C C n n hl hc hC hC (Nat.le_refl _) hn hK
def Wrote(w w':World)(g:Nat):Prop:=w'.os=w.os/\w'.tape=w.tape/\w'.output=w.output/\w'.heap.size=w.heap.size/\∀ k,k≠g->w'.heap[k]? =w.heap[k]?
theorem Wrote.refl(w:World)(g:Nat):Wrote w w g:=⟨rfl,rfl,rfl,rfl,fun _ _=>rfl⟩
theorem Wrote.setCell(w:World)(g o:Nat)(u:Value):Wrote w (w.setCell ⟨g,o,none⟩ u) g:=
 ⟨rfl,rfl,rfl,by simp[World.setCell],fun k hk=>heap_setCell_other w ⟨g,o,none⟩ k u hk⟩
theorem Wrote.below{w w':World}{g B:Nat}(h:Wrote w w' g)(hB:B<=g):Below B w w':=
 ⟨h.1,h.2.1,h.2.2.1,by rw[h.2.2.2.1];exact Nat.le_refl _,fun k hk=>h.2.2.2.2 k (by omega)⟩
theorem Wrote.setRow(w:World)(g:Nat)(cs:Array Value):Wrote w (w.setRow g cs) g:=
 ⟨rfl,rfl,rfl,by simp[World.setRow],fun k hk=>setRow_other w g k cs hk⟩
theorem Zbc{P:Program}{w:World}{ops:Array Oper}{rest:List Oper}{o:Oper}{a:Act}{Q:Exit->Act->World->Prop}(hgd:o.guard=none)(d s:Operand)(dT sT:TypeId)
 (ho:o.op=.call { callee:=.builtin .copy,args:=#[d,s],argTypes:=#[dT,sT] }) (elem:TypeId) (hu:P.underlying dT=some (.slice elem)) (hsz:(P.info? elem).map (·.size)=some 1)
 (dp sp:Option Addr) (dLen dCap sLen sCap:Nat) (hd:a.eval d=.slice dp dLen dCap) (hs:a.eval s=.slice sp sLen sCap)
 (g off:Nat) (cur:List Value) (t:TypeId) (hg:w.heap[g]? =some (.cells cur.toArray t (0,0))) (cs:List Value) (n:Nat) (hn:cs.length=n) (hnn:n=Nat.min sLen dLen)
 (hpos:0<cs.length->dp=some ⟨g,off,none⟩/\∃ ad,sp=some ad/\∀ j v,cs[j]? =some v->w.cell? (ad.add j)=some v)
 (hfit:off+cs.length<=cur.length) (h1:∀ v∈cs,v.oneCell'=true)
 (h:∀ w',Hid (w'.heap[g]? =some (.cells (splice cur off cs).toArray t (0,0)))->Wrote w w' g->wpList P ops Q rest (a.put o.dst (goInt n)) w'):
 wpList P ops Q (o :: rest) a w:=by
 subst hn;by_cases h0:cs.length=0
 . obtain rfl:cs=[]:=List.eq_nil_of_length_eq_zero h0
   refine wpList_copy_nothing hgd d s dT sT ho elem hu hsz dp sp dLen dCap sLen sCap hd hs (by simpa using hnn.symm) ?_;exact h w (show _=_ by simpa [splice] using hg) (Wrote.refl _ _)
 . obtain⟨rfl,ad,rfl,hsrc⟩:=hpos (by omega)
   refine wpList_copy_own hgd d s dT sT ho elem hu hsz g off dLen dCap ad sLen sCap hd hs cur.toArray t hg cs hnn hsrc (by simpa using hfit) h1 ?_;exact h _ (show _=_ by simpa [splice] using setRow_heap w g _ _ t _ hg) (Wrote.setRow _ _ _)
theorem Zbw{α:Type}(L cs:List α)(h:cs.length=L.length):splice L 0 cs=cs:=by
 simp[splice,h]
theorem Zeq{w w1:World}{ao:Option Addr}{N cap:Nat}{l:List Int}(hs:BSl w (.slice ao N cap) l)(hb:∀ p:Addr,p.block<w.heap.size->w1.cell? p=w.cell? p)(n:Nat):
 0<((l.take n).map (Value.int .u8)).length->∃ ad,ao=some ad/\∀ j v,((l.take n).map (Value.int .u8))[j]? =some v->w1.cell? (ad.add j)=some v:=by
 intro hpos;rcases hs.2 with⟨_,hl⟩| ⟨a,c,hv,_,hc⟩
 . rw[hl] at hpos;simp at hpos
 . obtain⟨rfl,_⟩:ao=some a/\N=l.length:=by simpa using ⟨(Value.slice.inj hv).1,(Value.slice.inj hv).2.1⟩
   refine⟨a,rfl,fun j v hj=>?_⟩;have hjl:j<(l.take n).length:=by simpa using (List.getElem?_eq_some_iff.1 hj).1
   have hjl':j<l.length:=by rw[List.length_take] at hjl;omega
   have hjn:j<n:=by rw[List.length_take] at hjl;omega
   obtain⟨h1,h2,h3⟩:=hc j hjl';obtain⟨b,off,spot⟩:=a;obtain rfl:spot=none:=h2;rw[Addr.add_lit,hb _ (by exact h1),h3,<- hj];simp[List.getD_eq_getElem?_getD,hjl',hjn]
theorem OB.of_heap{w:World}{B g cap:Nat}{l:List Int}{rest:List Value}(hb:Byt l)(hB:B<=g)
 (hg:w.heap[g]? =some (.cells ((l.map (Value.int .u8)) ++ rest).toArray 5 (0,0))) (hcap:cap=l.length+rest.length) (hm:cap<=maxLen):
 OB w B (.slice (some ⟨g,0,none⟩) l.length cap) l:=by
 refine⟨hb,by simp,.inr ⟨g,cap,_,rfl,hB,hg,by omega,hm,by simp[hcap],?_⟩⟩;simp
theorem ob_empty(w:World):OB (w.alloc (.cells #[] 5)) w.heap.size (.slice (some ⟨w.heap.size,0,none⟩) 0 0) []:=
 OB.of_heap (l:=[]) (rest:=[]) Zfb (Nat.le_refl _) (heap_alloc_new w _) rfl (by decide)
theorem Zah(w:World){ops:Array Oper}{rest:List Oper}{o:Oper}{a:Act}{Q:Exit->Act->World->Prop}(hgd:o.guard=none)(s x:Operand)
 (ho:o.op=.call { callee:=.builtin .append,args:=#[s,x],argTypes:=#[30,30] })
 (B:Nat) (v:Value) (l:List Int) (hs:a.eval s=v) (hown:OB w B v l) (w0:World) (u:Value) (m:List Int) (hx:a.eval x=u) (hr:BSl w0 u m)
 (hk:∀ p:Addr,p.block<w0.heap.size->w.cell? p=w0.cell? p) (hlen:l.length+m.length<=140737488355328) (hB:B<=w.heap.size)
 (h:∀ v' w',OB w' B v' (l ++ m)->Below B w w'->w.grownBy w' v.ownBlock->wpList Tryz.prog ops Q rest (a.put o.dst v') w'):wpList Tryz.prog ops Q (o :: rest) a w:=by
 obtain⟨i,h2,h3,h4,h5⟩:=info_parts Zke;obtain⟨ao,cap,rfl,hcap⟩:=hr.shape;have hby:=Zdc hown.1 hr.1;have e1:(l ++ m).length=l.length+m.length:=List.length_append;have e2:(l ++ m).map (Value.int .u8)=l.map (Value.int .u8) ++ m.map (Value.int .u8):=List.map_append;cases ao with
 |none=>
  have hm:m=[]:=by
   rcases hr.2 with⟨_,hl⟩| ⟨_,_,hv,_⟩
   . exact hl
   . simp at hv
  subst hm;have hc0:cap=0:=by
   rcases hr.2 with⟨hv,_⟩| ⟨_,_,hv,_⟩
   . simp at hv;exact hv
   . simp at hv
  subst hc0;refine wpList_append_own_none hgd s x 30 ho B 5 i 1 Tryz.underlying30 h2 v l.length _ hs hown.2 (by simpa using hx) ?_;exact h v w (by simpa using hown) (Below.refl _ _) (World.grownBy.refl w _)
 |some ad=>
  have hcells:∀ j v,(m.map (Value.int .u8))[j]? =some v->w.cell? (ad.add j)=some v:=by
   intro j v hj;have hjl:j<m.length:=by simpa using (List.getElem?_eq_some_iff.1 hj).1
   obtain⟨ad',he,hc⟩:=Zeq hr hk m.length (by simp;omega);obtain rfl:ad=ad':=by simpa using he
   exact hc j v (by simpa using hj)
  refine wpList_append_own w hgd s x 30 ho B 5 i (.int .u8 0) 1 1 Tryz.underlying30 h2 h3 h4 h5 rfl (by decide) v l.length _ hs hown.2 ad m.length cap _ hx (by simp) hcells (ints_oneCell _ _) (by simp only[maxLen];omega) (by omega) hB fun v' w' h6 h7 _=>?_
  refine h v' w' ⟨hby,by rw[e1,e2];exact h6⟩ ((Below.refl _ _).grown h7 hB fun k hk=>(hown.2.lt k hk).1) h7
theorem byt_single(x:Int)(h:0<=x/\x<=255):Byt [x]:=Zax fun y hy=>by simp at hy;subst hy;exact h
theorem Zdg(w1:World)(x:Int){ops:Array Oper}{rest:List Oper}{o:Oper}{a:Act}{Q:Exit->Act->World->Prop}(hgd:o.guard=none)(s y:Operand)
 (ho:o.op=.call { callee:=.builtin .append,args:=#[s,y],argTypes:=#[30,30] })
 (B:Nat) (v:Value) (l:List Int) (hs:a.eval s=v) (hown:OB w1 B v l) (hx:0<=x/\x<=255) (hy:a.eval y=.slice (some ⟨w1.heap.size,0,none⟩) 1 1)
 (hlen:l.length+1<=140737488355328) (hB:B<=w1.heap.size)
 (h:∀ v' w',OB w' B v' (l ++ [x])->Below B w1 w'->wpList Tryz.prog ops Q rest (a.put o.dst v') w'):wpList Tryz.prog ops Q (o :: rest) a (w1.alloc (.cells #[.int .u8 x] 5)):=by
 have hbel:Below w1.heap.size w1 (w1.alloc (.cells #[.int .u8 x] 5)):=(Below.refl _ _).alloc (Nat.le_refl _) _;have hnew:(w1.alloc (.cells #[.int .u8 x] 5)).heap[w1.heap.size]? =some (.cells #[.int .u8 x] 5 (0,0)):=heap_alloc_new w1 _;have hr:BSl (w1.alloc (.cells #[.int .u8 x] 5)) (.slice (some ⟨w1.heap.size,0,none⟩) 1 1) [x]:=by
  refine⟨byt_single x hx,.inr ⟨_,1,rfl,Nat.le_refl _,fun j hj=>?_⟩⟩;have hj0:j=0:=by simpa using hj
  subst hj0;refine⟨by simp,rfl,?_⟩;rw[cell_of_row _ _ _ _ _ _ hnew];rfl
 refine Zah _ hgd s y ho B v l hs (hown.below hbel) _ _ [x] hy hr (fun _ _=>rfl) (by simpa using hlen) (by simp;omega) fun v' w' h1 h2 _=>?_
 exact h v' w' h1 ((hbel.mono hB).trans h2)
theorem Zfl{w:World}{v:Value}{l:List Int}(hs:BSl w v l):(convert 30 9 v).run Tryz.prog w=.ok (.string (strOfNums l)) w:=by
 rcases hs.2 with⟨rfl,rfl⟩| ⟨⟨b,off,spot⟩,cap,rfl,_,hc⟩
 . exact run_convert_bytes_nil w 30 5 Tryz.underlying30 Tryz.underlying5 0 0 _ Tryz.underlying9
 . by_cases h0:l.length=0
   . obtain rfl:l=[]:=List.eq_nil_of_length_eq_zero h0
     rw[run_convert_bytes_string w 30 9 5 _ _ cap Tryz.underlying30 Tryz.underlying5 Tryz.underlying9,
      run_bytesToString w _ _ cap [] (by simp[loadCells,loadCellsFrom,Sem.run_pure])]
     rfl
   . obtain⟨_,hsp,_⟩:=hc 0 (by omega)
     obtain rfl:spot=none:=hsp;exact run_convert_bytes_arg w 30 5 Tryz.underlying30 Tryz.underlying5 b off l.length cap l rfl (fun i hi=>(hc i hi).2.2) _ Tryz.underlying9
section
variable {H:Type}{enc:TypeId × Value->H}{W:World}{base:Nat}{spare:Nat->Bool}{held:Bool}
open Go.ChangeShapes Go.WideShapes
end
end Go.Proofs.YtedabomlfcghoaaGreat
namespace Go.Proofs.YtedabomlfcghoaaGreat
set_option maxRecDepth 100000
namespace BM
def Zdl(x:Int)(k:Nat):Bool:=decide (x / 2 ^ k%2=1)
structure Rep (l:List Int) (L:List Bool):Prop where
 len:l.length=(L.length+7) / 8
 byte:∀ j,0<=l.getD j 0/\l.getD j 0<=255
 bit:∀ j,Zdl (l.getD (j / 8) 0) (j%8)=L.getD j false
def getB(L:List Bool)(i:Int):Bool:=decide (0<=i) && L.getD i.toNat false
theorem getB_nat(L:List Bool)(i:Nat):getB L i=L.getD i false:=by simp[getB]
theorem getB_out(L:List Bool)(i:Int)(h:¬ (0<=i/\i<L.length)):getB L i=false:=by
 unfold getB;by_cases h0:0<=i
 . have:L.length<=i.toNat:=by omega
   simp[List.getD_eq_getElem?_getD,List.getElem?_eq_none this]
 . simp[h0]
theorem bitAt_zero(k:Nat):Zdl 0 k=false:=by simp[Zdl]
theorem rep_new(n:Nat):Rep (List.replicate ((n+7) / 8) 0) (List.replicate n false):=by
 have e:∀ j,(List.replicate ((n+7) / 8) (0:Int)).getD j 0=0:=fun j=>by
  rw[List.getD_eq_getElem?_getD,List.getElem?_replicate];split <;> rfl
 refine⟨by simp,fun j=>by rw[e];decide,fun j=>?_⟩;rw[e,bitAt_zero,List.getD_eq_getElem?_getD,List.getElem?_replicate];split <;> rfl
theorem Zig(x y:Int)(k:Nat)(h:Zdl x k=Zdl y k):x / 2 ^ k%2=y / 2 ^ k%2:=by
 simp only[Zdl,decide_eq_decide] at h;generalize x / 2 ^ k=p at*
 generalize y / 2 ^ k=q at*
 omega
theorem byte_sum(x:Int)(h0:0<=x)(h1:x<=255):
 x=x / 2 ^ 0%2+2*(x / 2 ^ 1%2)+4*(x / 2 ^ 2%2)+8*(x / 2 ^ 3%2)+16*(x / 2 ^ 4%2)+32*(x / 2 ^ 5%2)+64*(x / 2 ^ 6%2)+128*(x / 2 ^ 7%2):=by
 omega
theorem byte_ext(x y:Int)(hx:0<=x/\x<=255)(hy:0<=y/\y<=255)(h:∀ k,k<8->Zdl x k=Zdl y k):x=y:=by
 rw[byte_sum x hx.1 hx.2,byte_sum y hy.1 hy.2]
 rw[Zig x y 0 (h 0 (by omega)),Zig x y 1 (h 1 (by omega)),Zig x y 2 (h 2 (by omega)),Zig x y 3 (h 3 (by omega)),
  Zig x y 4 (h 4 (by omega)),Zig x y 5 (h 5 (by omega)),Zig x y 6 (h 6 (by omega)),Zig x y 7 (h 7 (by omega))]
theorem rep_ext{l m:List Int}{L:List Bool}(hl:Rep l L)(hm:Rep m L):l=m:=by
 apply List.ext_getElem (by rw[hl.len,hm.len]);intro j h1 h2;have e1:l[j]=l.getD j 0:=by simp[List.getD_eq_getElem?_getD,h1]
 have e2:m[j]=m.getD j 0:=by simp[List.getD_eq_getElem?_getD,h2]
 rw[e1,e2];refine byte_ext _ _ (hl.byte j) (hm.byte j) fun k hk=>?_
 have a:=hl.bit (8*j+k);have b:=hm.bit (8*j+k);rw[show(8*j+k) / 8=j by omega,show(8*j+k)%8=k by omega] at a b;rw[a,b]
theorem bit_set_same(x:Int)(k:Nat)(on:Bool)(y:Int)(hk:k<8)(h:y=if on then (if Zdl x k then x else x+2 ^ k) else (if Zdl x k then x-2 ^ k else x))(hx:0<=x/\x<=255):
 (0<=y/\y<=255)/\∀ j,j<8->Zdl y j=if j=k then on else Zdl x j:=by
 have key:∀ (b:Bool),Zdl x k=b->(0<=y/\y<=255)/\∀ j,j<8->Zdl y j=if j=k then on else Zdl x j:=by
  intro b hb;rw[hb] at h;have hk':k=0\/k=1\/k=2\/k=3\/k=4\/k=5\/k=6\/k=7:=by omega
  refine⟨?_,fun j hj=>?_⟩
  . rcases hk' with rfl|rfl|rfl|rfl|rfl|rfl|rfl|rfl <;> cases b <;> cases on <;>
     simp[Zdl] at hb h <;> omega
  . have hj':j=0\/j=1\/j=2\/j=3\/j=4\/j=5\/j=6\/j=7:=by omega
    rcases hk' with rfl|rfl|rfl|rfl|rfl|rfl|rfl|rfl <;> cases b <;> cases on <;>
     simp[Zdl] at hb h <;> rcases hj' with rfl|rfl|rfl|rfl|rfl|rfl|rfl|rfl <;> simp[Zdl,h] <;> omega
 exact key _ rfl
theorem getD_set{α:Type}(l:List α)(i j:Nat)(v d:α)(hi:i<l.length):(l.set i v).getD j d=if j=i then v else l.getD j d:=by
 rw[List.getD_eq_getElem?_getD,List.getElem?_set,List.getD_eq_getElem?_getD];by_cases h:i=j
 . subst h;simp[hi]
 . rw[if_neg h,if_neg (fun e=>h e.symm)]
theorem rep_set{l:List Int}{L:List Bool}(h:Rep l L)(i:Nat)(on:Bool)(hi:i<L.length)(y:Int)
 (hy:y=if on then (if Zdl (l.getD (i / 8) 0) (i%8) then l.getD (i / 8) 0 else l.getD (i / 8) 0+2 ^ (i%8)) else (if Zdl (l.getD (i / 8) 0) (i%8) then l.getD (i / 8) 0-2 ^ (i%8) else l.getD (i / 8) 0)):
 Rep (l.set (i / 8) y) (L.set i on):=by
 have hlen:=h.len;have hil:i / 8<l.length:=by omega
 obtain⟨b1,b2⟩:=bit_set_same (l.getD (i / 8) 0) (i%8) on y (Nat.mod_lt _ (by omega)) hy (h.byte _);refine⟨by simp[hlen],fun j=>?_,fun j=>?_⟩
 . rw[getD_set _ _ _ _ _ hil];split
   . exact b1
   . exact h.byte j
 . rw[getD_set _ _ _ _ _ hil,getD_set _ _ _ _ _ hi]
   by_cases hj:j / 8=i / 8
   . rw[if_pos hj,b2 _ (Nat.mod_lt _ (by omega))]
     by_cases e:j=i
     . subst e;simp
     . rw[if_neg (by omega),if_neg e,<- h.bit j,hj]
   . rw[if_neg hj,if_neg (fun e=>hj (by rw[e])),h.bit j]
def Zdo(L:List Bool)(i:Nat):Int:=
 match (L.drop i).findIdx? (fun b=>!b) with
 |some k=>(i+k:Nat)
 |none=> -1
theorem firstZ_some{L:List Bool}{i j:Nat}(hij:i<=j)(hj:j<L.length)(hz:L.getD j false=false)(hb:∀ k,i<=k->k<j->L.getD k false=true):Zdo L i=j:=by
 have e:(L.drop i).findIdx? (fun b=>!b)=some (j-i):=by
  rw[List.findIdx?_eq_some_iff_getElem];refine⟨by simp;omega,?_,fun k hk=>?_⟩
  . have:L[j]=false:=by simpa [List.getD_eq_getElem?_getD,hj] using hz
    simp only[List.getElem_drop,show i+(j-i)=j by omega,this];rfl
  . have h1:i+k<L.length:=by omega
    have:L[i+k]=true:=by simpa [List.getD_eq_getElem?_getD,h1] using hb (i+k) (by omega) (by omega)
    simp only[List.getElem_drop,this];decide
 rw[Zdo,e];show((i+(j-i):Nat):Int)=j;congr 1;omega
theorem firstZ_none{L:List Bool}{i:Nat}(hb:∀ k,i<=k->k<L.length->L.getD k false=true):Zdo L i= -1:=by
 have e:(L.drop i).findIdx? (fun b=>!b)=none:=by
  rw[List.findIdx?_eq_none_iff];intro x hx;obtain⟨k,hk,rfl⟩:=List.mem_iff_getElem.1 hx;simp only[List.length_drop] at hk;have h1:i+k<L.length:=by omega
  have:L[i+k]=true:=by simpa [List.getD_eq_getElem?_getD,h1] using hb (i+k) (by omega) h1
  simp only[List.getElem_drop,this];rfl
 rw[Zdo,e]
theorem firstZ_cases(L:List Bool)(i:Nat):(Zdo L i= -1/\∀ k,i<=k->k<L.length->L.getD k false=true)\/
 ∃ j:Nat,i<=j/\j<L.length/\Zdo L i=j/\L.getD j false=false/\∀ k,i<=k->k<j->L.getD k false=true:=by
 by_cases h:∃ j,i<=j/\j<L.length/\L.getD j false=false
 . obtain⟨j0,a0,b0,c0⟩:=h
   have:∀ n j,j<=n->i<=j->j<L.length->L.getD j false=false->∃ j,i<=j/\j<L.length/\L.getD j false=false/\∀ k,i<=k->k<j->L.getD k false=true:=by
    intro n;induction n with
    |zero=>intro j hn h1 h2 h3;exact⟨j,h1,h2,h3,fun k _ hk=>by omega⟩
    |succ n ih=>
     intro j hn h1 h2 h3;by_cases hk:∃ k,i<=k/\k<j/\L.getD k false=false
     . obtain⟨k,k1,k2,k3⟩:=hk;exact ih k (by omega) k1 (by omega) k3
     . refine⟨j,h1,h2,h3,fun k k1 k2=>?_⟩
       cases hc:L.getD k false
       . exact absurd ⟨k,k1,k2,hc⟩ hk
       . rfl
   obtain⟨j,h1,h2,h3,h4⟩:=this j0 j0 (Nat.le_refl _) a0 b0 c0;exact .inr ⟨j,h1,h2,firstZ_some h1 h2 h3 h4,h3,h4⟩
 . have h':∀ k,i<=k->k<L.length->L.getD k false=true:=fun k k1 k2=>by
    cases hc:L.getD k false
    . exact absurd ⟨k,k1,k2,hc⟩ h
    . rfl
   exact .inl ⟨firstZ_none h',h'⟩
def firstS(L:List Bool)(goal:Int):Int:=
 if 0<=goal/\goal<L.length then (if 0<=Zdo L goal.toNat then Zdo L goal.toNat else Zdo L 0) else Zdo L 0
def Zcr(L:List Bool):Nat:=(L.filter id).length
theorem Zko(L:List Bool):Zcr L<=L.length:=List.length_filter_le _ _
theorem countB_take{L:List Bool}{k:Nat}(h:k<L.length):Zcr (L.take (k+1))=Zcr (L.take k)+if L.getD k false then 1 else 0:=by
 rw[List.take_succ_eq_append_getElem h,Zcr,List.filter_append,List.length_append,Zcr];simp only[List.getD_eq_getElem?_getD,List.getElem?_eq_getElem h,Option.getD_some];cases L[k] <;> rfl
theorem Zix(L:List Bool)(k:Nat):Zcr (L.take k)<=k:=Nat.le_trans (Zko _) (by simp;omega)
end BM
end Go.Proofs.YtedabomlfcghoaaGreat
namespace Go.Proofs.YtedabomlfcghoaaGreat
set_option maxRecDepth 100000
open Go.RowKit BM
theorem bSize_any(n:Int)(w:World)(_h0:0<=n)(_h1:n<=4096):
 Calls Tryz.prog 93 #[.int .i64 n] w fun e w'=>e=.returned (.int .i64 ((n+7) / 8))/\w=w':=by
 go_enter Tryz.func93,Tryz.ntmps93;go_wp2;go_ret;exact⟨rfl,rfl⟩
theorem bShift_any(n:Int)(w:World)(_h0:0<=n)(_h1:n<=4096):
 Calls Tryz.prog 101 #[.int .i64 n] w fun e w'=>e=.returned (.int .u64 (n%8))/\w=w':=by
 go_enter Tryz.func101,Tryz.ntmps101;go_wp2;go_ret;exact⟨rfl,rfl⟩
theorem bHas_any(p:Nat)(n i:Int)(w:World)(hc:w.cell? ⟨p,0,none⟩=some (.int .i64 n)):
 Calls Tryz.prog 100 #[.pointer (some ⟨p,0,none⟩),.int .i64 i] w fun e w'=>e=.returned (.bool (decide (0<=i) && decide (i<n)))/\w=w':=by
 by_cases hi:0<=i
 . go_enter Tryz.func100,Tryz.ntmps100
   go_wp2;go_ret;exact⟨by simp[hi],rfl⟩
 . go_enter Tryz.func100,Tryz.ntmps100
   go_wp2;go_ret
   exact⟨by have h:decide (0<=i)=false:=by simpa using hi
            rw[h];rfl,rfl⟩
theorem bLen_any(p:Nat)(n:Int)(w:World)(hc:w.cell? ⟨p,0,none⟩=some (.int .i64 n)):
 Calls Tryz.prog 58 #[.pointer (some ⟨p,0,none⟩)] w fun e w'=>e=.returned (.int .i64 n)/\w=w':=by
 go_enter Tryz.func58,Tryz.ntmps58;go_wp2;go_ret;exact⟨rfl,rfl⟩
theorem bHas_in(p:Nat)(n i:Int)(w:World)(hc:w.cell? ⟨p,0,none⟩=some (.int .i64 n))(h0:0<=i)(h1:i<n):
 Calls Tryz.prog 100 #[.pointer (some ⟨p,0,none⟩),.int .i64 i] w fun e w'=>e=.returned (.bool true)/\w=w':=
 (bHas_any p n i w hc).mono fun e w' ⟨he,hw⟩=>⟨by rw[he];simp[h0,h1],hw⟩
theorem bHas_out(p:Nat)(n i:Int)(w:World)(hc:w.cell? ⟨p,0,none⟩=some (.int .i64 n))(h:¬ (0<=i/\i<n)):
 Calls Tryz.prog 100 #[.pointer (some ⟨p,0,none⟩),.int .i64 i] w fun e w'=>e=.returned (.bool false)/\w=w':=
 (bHas_any p n i w hc).mono fun e w' ⟨he,hw⟩=>⟨by rw[he];simp;omega,hw⟩
def BRow(w:World)(p g:Nat)(L:List Bool):Prop:=
 L.length<=4096/\∃ l,Rep l L/\w.heap[p]? =some (.cells #[.int .i64 L.length,.slice (some ⟨g,0,none⟩) l.length l.length] 163 (0,0))/\w.heap[g]? =some (.cells (l.map (Value.int .u8)).toArray 5 (0,0))
theorem BRow.drewN{w:World}{p g:Nat}{L:List Bool}(h:BRow w p g L)(n:Nat):BRow (w.drewN n) p g L:=h
theorem BRow.of_heap{w w':World}{p g:Nat}{L:List Bool}(h:BRow w p g L)(hp:w'.heap[p]? =w.heap[p]?)(hg:w'.heap[g]? =w.heap[g]?):BRow w' p g L:=by
 obtain⟨h1,l,h2,h3,h4⟩:=h;exact⟨h1,l,h2,by rw[hp,h3],by rw[hg,h4]⟩
theorem BRow.lt{w:World}{p g:Nat}{L:List Bool}(h:BRow w p g L):p<w.heap.size/\g<w.heap.size:=by
 obtain⟨_,l,_,h3,h4⟩:=h;exact⟨(Array.getElem?_eq_some_iff.1 h3).1,(Array.getElem?_eq_some_iff.1 h4).1⟩
theorem BRow.below{w w':World}{p g B:Nat}{L:List Bool}(h:BRow w p g L)(hb:Below B w w')(h1:p<B)(h2:g<B):BRow w' p g L:=
 h.of_heap (hb.block p h1) (hb.block g h2)
theorem and1(x:Int)(h0:0<=x)(h1:x<=255)(k:Nat):(bits BinOp.and IntKind.u8 (x / 2 ^ k) 1==1)=Zdl x k:=by
 have h2:0<=x / 2 ^ k:=Int.ediv_nonneg h0 (by exact Int.le_of_lt (Int.pow_pos (by decide)));have h3:x / 2 ^ k<=255:=Int.le_trans (Int.ediv_le_self _ h0) h1;generalize hy:x / 2 ^ k=y at*
 rw[u8_and y 1 h2 (by omega) (by decide) (by decide)];unfold Zdl;rw[hy];obtain⟨n,rfl⟩:∃ n:Nat,y=n:=⟨y.toNat,by omega⟩;simp only[Int.toNat_natCast,show(1:Int).toNat=1 from rfl,Nat.and_one_is_mod];rw[Bool.eq_iff_iff];simp
theorem bGet_cells(p g len:Nat)(n x:Int)(i:Nat)(w:World)(h1:n<=4096)(hi:(i:Int)<n)(hl:i / 8<len)
 (hc:w.cell? ⟨p,0,none⟩=some (.int .i64 n)) (hs:w.cell? ⟨p,1,none⟩=some (.slice (some ⟨g,0,none⟩) len len))
 (hx:w.cell? ⟨g,i / 8,none⟩=some (.int .u8 x)) (_hx0:0<=x) (_hx1:x<=255):
 Calls Tryz.prog 59 #[.pointer (some ⟨p,0,none⟩),.int .i64 i] w fun e w'=>e=.returned (.bool (bits BinOp.and IntKind.u8 (x / 2 ^ (i%8)) 1==1))/\∃ m,w'=w.drewN m:=by
 have hll:(i:Int) / 8<len:=by omega
 go_enter Tryz.func59,Tryz.ntmps59;go_wp2
 go_quiet (first
  |(go_at_call 100;refine Zai (bHas_in p n i _ (by simpa using hc) (by omega) hi))
  |(go_at_call 101;refine Zai (bShift_any i _ (by omega) (by omega))))
 go_wp2;go_ret;exact⟨rfl,_,rfl⟩
theorem bGet_out(p:Nat)(n i:Int)(w:World)(hi:¬ (0<=i/\i<n))(hc:w.cell? ⟨p,0,none⟩=some (.int .i64 n)):
 Calls Tryz.prog 59 #[.pointer (some ⟨p,0,none⟩),.int .i64 i] w fun e w'=>e=.returned (.bool false)/\∃ m,w'=w.drewN m:=by
 go_enter Tryz.func59,Tryz.ntmps59;go_wp2;go_quiet ((go_at_call 100;refine Zai (bHas_out p n i _ (by simpa using hc) hi)))
 go_wp2;go_ret;exact⟨rfl,_,rfl⟩
theorem BRow.cells{w:World}{p g:Nat}{L:List Bool}(h:BRow w p g L):∃ l,Rep l L/\w.cell? ⟨p,0,none⟩=some (.int .i64 L.length)/\
 w.cell? ⟨p,1,none⟩=some (.slice (some ⟨g,0,none⟩) l.length l.length)/\(∀ j,j<l.length->w.cell? ⟨g,j,none⟩=some (.int .u8 (l.getD j 0)))/\
 (∀ j,w.frozen? ⟨g,j,none⟩=false)/\w.heap[g]? =some (.cells (l.map (Value.int .u8)).toArray 5 (0,0)):=by
 obtain⟨_,l,h2,h3,h4⟩:=h;refine⟨l,h2,by rw[cell_of_row _ _ _ _ _ _ h3];rfl,by rw[cell_of_row _ _ _ _ _ _ h3];rfl,fun j hj=>?_,fun j=>frozen_of_row _ _ _ _ _ h4,h4⟩;rw[cell_of_row _ _ _ _ _ _ h4];simp[List.getD_eq_getElem?_getD,hj]
theorem bGet_any{w:World}{p g:Nat}{L:List Bool}(h:BRow w p g L)(i:Int):
 Calls Tryz.prog 59 #[.pointer (some ⟨p,0,none⟩),.int .i64 i] w fun e w'=>e=.returned (.bool (getB L i))/\∃ m,w'=w.drewN m:=by
 have hn:=h.1;obtain⟨l,hr,hc,hs,hx,_,_⟩:=h.cells;by_cases hi:0<=i/\i<L.length
 . obtain⟨k,rfl⟩:∃ k:Nat,i=k:=⟨i.toNat,by omega⟩
   have hl:=hr.len;have hb:=hr.byte (k / 8);refine(bGet_cells p g l.length L.length (l.getD (k / 8) 0) k w (by omega) hi.2 (by omega) hc hs (hx _ (by omega)) hb.1 hb.2).mono fun e w' ⟨he,hw⟩=>⟨?_,hw⟩
   rw[he,and1 _ hb.1 hb.2,hr.bit,getB_nat]
 . rw[getB_out L i hi]
   exact bGet_out p _ i w hi hc
theorem bLen_row{w:World}{p g:Nat}{L:List Bool}(h:BRow w p g L):
 Calls Tryz.prog 58 #[.pointer (some ⟨p,0,none⟩)] w fun e w'=>e=.returned (.int .i64 L.length)/\w=w':=by
 obtain⟨l,hr,hc,hs,hx,_,_⟩:=h.cells;exact bLen_any p _ w hc
theorem bSize_nat(n:Int)(k N:Nat)(w:World)(hn:n=k)(h1:k<=4096)(hN:N=(k+7) / 8):
 Calls Tryz.prog 93 #[.int .i64 n] w fun e w'=>e=.returned (.int .i64 N)/\w=w':=
 (bSize_any n w (by omega) (by omega)).mono fun e w' ⟨he,hw⟩=>⟨by rw[he,show(n+7) / 8=((N:Nat):Int) by omega],hw⟩
theorem bNew_at(n:Int)(k:Nat)(hk:k<=4096)(w:World)(hn:if n<0 then k=0 else if 4096<n then k=4096 else n=k):
 Calls Tryz.prog 53 #[.int .i64 n] w fun e w'=>e=.returned (.pointer (some ⟨w.heap.size+1,0,none⟩))/\BRow w' (w.heap.size+1) w.heap.size (List.replicate k false)/\Below w.heap.size w w'/\w'.heap.size=w.heap.size+2:=by
 obtain⟨N,hN⟩:∃ N:Nat,N=(k+7) / 8:=⟨_,rfl⟩
 have fin:∀ (c:Int) w',(c=k)->w'=(w.alloc (.cells (Array.replicate N (.int .u8 0)) 5)).alloc (.cells #[.int .i64 c,.slice (some ⟨w.heap.size,0,none⟩) N N] 163)->
  BRow w' (w.heap.size+1) w.heap.size (List.replicate k false)/\Below w.heap.size w w'/\w'.heap.size=w.heap.size+2:=by
  rintro c w' rfl rfl;refine⟨⟨by simpa using hk,_,rep_new k,?_,?_⟩,((Below.refl _ _).alloc (Nat.le_refl _) _).alloc (by simp) _,by simp⟩
  . rw[heap_alloc2_new];simp[hN]
  . rw[heap_alloc2_old];simp[hN]
 have hnn:N<=4096:=by omega
 have HN:Hid (N=(k+7) / 8):=hN;clear hN;by_cases h1:n<0
 . rw[if_pos h1] at hn
   have HK:Hid (k=0):=hn;clear hn;go_enter Tryz.func53,Tryz.ntmps53
   go_wp2_with (first
    |(go_at_call 93;refine(bSize_nat _ k N _ (by rw[HK.out];rfl) hk HN.out).mono ?_;rintro e w' ⟨rfl,rfl⟩)
    |(at_make;refine Zay _ rfl _ _ rfl _ N rfl rfl rfl (by omega) ?_))
   go_ret;exact⟨rfl,fin _ _ (by first|exact HK.out|(rw [HK.out];rfl)) rfl⟩
 . rw[if_neg h1] at hn
   by_cases h2:4096<n
   . rw[if_pos h2] at hn
     have HK:Hid (k=4096):=hn;clear hn;go_enter Tryz.func53,Tryz.ntmps53
     go_wp2_with (first
      |(go_at_call 93;refine(bSize_nat _ k N _ (by rw[HK.out];rfl) hk HN.out).mono ?_;rintro e w' ⟨rfl,rfl⟩)
      |(at_make;refine Zay _ rfl _ _ rfl _ N rfl rfl rfl (by omega) ?_))
     go_ret;exact⟨rfl,fin _ _ (by first|exact HK.out|(rw [HK.out];rfl)) rfl⟩
   . rw[if_neg h2] at hn
     have HK:Hid (n=k):=hn;clear hn;go_enter Tryz.func53,Tryz.ntmps53
     go_wp2_with (first
      |(go_at_call 93;refine(bSize_nat _ k N _ HK.out hk HN.out).mono ?_;rintro e w' ⟨rfl,rfl⟩)
      |(at_make;refine Zay _ rfl _ _ rfl _ N rfl rfl rfl (by omega) ?_))
     go_ret;exact⟨rfl,fin _ _ (by first|exact HK.out|(rw [HK.out];rfl)) rfl⟩
theorem or_tab:∀ k,k<8->∀ n,n<256->(n ||| 2 ^ k)=if n / 2 ^ k%2=1 then n else n+2 ^ k:=by decide +kernel
theorem andnot_tab:∀ k,k<8->∀ n,n<256->(n &&& (255-2 ^ k))=if n / 2 ^ k%2=1 then n-2 ^ k else n:=by decide +kernel
theorem bitAt_nat(n k:Nat):Zdl (n:Int) k=decide (n / 2 ^ k%2=1):=by
 unfold Zdl;have e:(n:Int) / 2 ^ k%2=((n / 2 ^ k%2:Nat):Int):=by push_cast;rfl
 rw[e];rw[decide_eq_decide];omega
theorem mask_at(k:Nat)(hk:k<8):IntKind.u64.wrap (2 ^ k)%256=((2 ^ k:Nat):Int):=by
 have h:k=0\/k=1\/k=2\/k=3\/k=4\/k=5\/k=6\/k=7:=by omega
 rcases h with rfl|rfl|rfl|rfl|rfl|rfl|rfl|rfl <;> decide
theorem pow_lt8(k:Nat)(hk:k<8):1<=2 ^ k/\2 ^ k<=128:=
 ⟨Nat.one_le_two_pow,by have:=Nat.pow_le_pow_right (n:=2) (by omega) (show k<=7 by omega);simpa using this⟩
theorem or_bit(x:Int)(k:Nat)(hk:k<8)(h0:0<=x)(h1:x<=255):bits BinOp.or IntKind.u8 x (IntKind.u64.wrap (2 ^ k)%256)=if Zdl x k then x else x+2 ^ k:=by
 obtain⟨n,rfl⟩:∃ n:Nat,x=n:=⟨x.toNat,by omega⟩;have hp:=pow_lt8 k hk;have ht:=or_tab k hk n (by omega);rw[mask_at k hk,u8_or_nat n (2 ^ k) (by omega) (by omega),ht,bitAt_nat];by_cases hb:n / 2 ^ k%2=1
 . rw[if_pos hb,if_pos (by simpa using hb)]
 . rw[if_neg hb,if_neg (by simpa using hb)];push_cast;rfl
theorem andnot_bit(x:Int)(k:Nat)(hk:k<8)(h0:0<=x)(h1:x<=255):bits BinOp.andNot IntKind.u8 x (IntKind.u64.wrap (2 ^ k)%256)=if Zdl x k then x-2 ^ k else x:=by
 obtain⟨n,rfl⟩:∃ n:Nat,x=n:=⟨x.toNat,by omega⟩;have hp:=pow_lt8 k hk;have ht:=andnot_tab k hk n (by omega);rw[mask_at k hk,u8_andNot_nat n (2 ^ k) (by omega) (by omega),ht,bitAt_nat];by_cases hb:n / 2 ^ k%2=1
 . rw[if_pos hb,if_pos (by simpa using hb)]
   have:2 ^ k<=n:=by
    rcases Nat.lt_or_ge n (2 ^ k) with h|h
    . rw[Nat.div_eq_of_lt h] at hb;omega
    . exact h
   rw[Int.natCast_sub this];push_cast;rfl
 . rw[if_neg hb,if_neg (by simpa using hb)]
theorem bSet_cells(p g len:Nat)(n x:Int)(i:Nat)(on:Bool)(w:World)(h1:n<=4096)(hi:(i:Int)<n)(hl:i / 8<len)
 (hc:w.cell? ⟨p,0,none⟩=some (.int .i64 n)) (hs:w.cell? ⟨p,1,none⟩=some (.slice (some ⟨g,0,none⟩) len len))
 (hx:w.cell? ⟨g,i / 8,none⟩=some (.int .u8 x)) (hf:w.frozen? ⟨g,i / 8,none⟩=false):
 Calls Tryz.prog 56 #[.pointer (some ⟨p,0,none⟩),.int .i64 i,.bool on] w fun e w'=>e=.returned (.int .i64 0)/\
  w'=w.setCell ⟨g,i / 8,none⟩ (.int .u8 (if on then bits BinOp.or IntKind.u8 x (IntKind.u64.wrap (2 ^ (i%8))%256) else bits BinOp.andNot IntKind.u8 x (IntKind.u64.wrap (2 ^ (i%8))%256))):=by
 have hll:(i:Int) / 8<len:=by omega
 cases on
 all_goals
  go_enter Tryz.func56,Tryz.ntmps56
  go_wp2_with (first
   |(go_at_call 100;refine(bHas_in p n i _ hc (by omega) hi).mono ?_;rintro e w' ⟨rfl,rfl⟩)
   |(go_at_call 101;refine(bShift_any i _ (by omega) (by omega)).mono ?_;rintro e w' ⟨rfl,rfl⟩))
  go_ret;exact⟨rfl,by simp⟩
theorem bSet_no(p:Nat)(n i:Int)(on:Bool)(w:World)(hi:¬ (0<=i/\i<n))(hc:w.cell? ⟨p,0,none⟩=some (.int .i64 n)):
 Calls Tryz.prog 56 #[.pointer (some ⟨p,0,none⟩),.int .i64 i,.bool on] w fun e w'=>e=.returned (.int .i64 1)/\w=w':=by
 go_enter Tryz.func56,Tryz.ntmps56;go_wp2_with (go_at_call 100;refine(bHas_out p n i _ hc hi).mono ?_;rintro e w' ⟨rfl,rfl⟩)
 go_ret;exact⟨rfl,rfl⟩
theorem bSet_any{w:World}{p g:Nat}{L:List Bool}(h:BRow w p g L)(i:Int)(on:Bool):
 Calls Tryz.prog 56 #[.pointer (some ⟨p,0,none⟩),.int .i64 i,.bool on] w fun e w'=>
  e=.returned (.int .i64 (if 0<=i/\i<L.length then 0 else 1))/\BRow w' p g (if 0<=i/\i<L.length then L.set i.toNat on else L)/\Wrote w w' g:=by
 have hn:=h.1;have hh:=h;obtain⟨l,hr,hc,hs,hx,hf,hg⟩:=h.cells;by_cases hi:0<=i/\i<L.length
 . rw[if_pos hi,if_pos hi]
   obtain⟨k,rfl⟩:∃ k:Nat,i=k:=⟨i.toNat,by omega⟩;have hl:=hr.len;have hb:=hr.byte (k / 8);have hk8:k%8<8:=Nat.mod_lt _ (by omega);refine(bSet_cells p g l.length L.length (l.getD (k / 8) 0) k on w (by omega) hi.2 (by omega) hc hs (hx _ (by omega)) (hf _)).mono fun e w' ⟨he,hw⟩=>⟨he,?_,?_⟩
   . rw[or_bit _ _ hk8 hb.1 hb.2,andnot_bit _ _ hk8 hb.1 hb.2] at hw
     have hrs:=rep_set hr k on (by omega) _ rfl;obtain⟨_,l',hr',hp,hg'⟩:=hh;have el:l'=l:=rep_ext hr' hr;subst el;refine⟨by simpa using hn,_,hrs,?_,?_⟩
     . rw[hw,heap_setCell_other _ _ _ _ (show p≠g from fun e=>by rw[e,hg] at hp;simp at hp)]
       simpa using hp
     . rw[hw,heap_setCell_same _ _ _ _ _ _ hg]
       congr 1;apply congrArg (fun c=>Obj.cells c 5 (0,0));rw[List.map_set];apply Array.ext';simp
   . rw[hw];exact Wrote.setCell _ _ _ _
 . rw[if_neg hi,if_neg hi]
   exact(bSet_no p _ i on w hi hc).mono fun e w' ⟨he,hw⟩=>⟨he,by rw[<- hw];exact hh,by rw[<- hw];exact Wrote.refl _ _⟩
theorem bGet_val{w:World}{p g:Nat}{L:List Bool}(h:BRow w p g L)(i:Nat)(n:Nat)(b:Bool)(hb:L.getD i false=b):
 Calls Tryz.prog 59 #[.pointer (some ⟨p,0,none⟩),.int .i64 i] (w.drewN n) fun e w'=>e=.returned (.bool b)/\∃ m,w'=w.drewN m:=
 (bGet_any (h.drewN n) i).mono fun e w' ⟨he,m,hw⟩=>⟨by rw[he,getB_nat,hb],n+m,by rw[hw,World.drewN_drewN]⟩
theorem Zhe{w:World}{p g:Nat}{L:List Bool}(h:BRow w p g L)(s:Nat)(hs0:s<=L.length):
 Calls Tryz.prog 227 #[.pointer (some ⟨p,0,none⟩),.int .i64 s] w fun e w'=>e=.returned (.int .i64 (Zdo L s))/\∃ m,w'=w.drewN m:=by
 have hn:=h.1;obtain⟨l,hr,hc,hs,hx,hf,hg⟩:=h.cells;clear hr hs hx hf hg;go_enter Tryz.func227,Tryz.ntmps227;go_wp2_with fail
 go_loopw [1] (fun i wr=>∃ k:Nat,s<=k/\k<=L.length/\i=.int .i64 k/\Hid (∀ j,s<=j->j<k->L.getD j false=true)/\∃ m,wr=w.drewN m)
  (fun i _=>L.length-(intOf i).toNat)
 case atStart=>exact⟨s,by omega,by omega,rfl,fun j h1 h2=>by omega,0,rfl⟩
 case round=>
  obtain⟨k,hsk,hk,rfl,hall,m,rfl⟩:=hrel;by_cases hlt:k<L.length
  . cases hb:L.getD k false
    . have HB:=hid hb
      clear hb;go_wp2_with (go_at_call 59;refine(bGet_val h k _ false HB.out).mono ?_;rintro e w' ⟨rfl,m2,rfl⟩)
      go_ret;exact⟨Zjb (firstZ_some hsk hlt HB.out hall.out).symm,m2,rfl⟩
    . have HB:=hid hb
      clear hb;go_wp2_with (go_at_call 59;refine(bGet_val h k _ true HB.out).mono ?_;rintro e w' ⟨rfl,m2,rfl⟩)
      go_roundw
      case rel=>
       refine⟨k+1,by omega,by omega,by go_num,fun j h1 h2=>?_,m2,rfl⟩;by_cases e:j=k
       . rw[e];exact HB.out
       . exact hall.out j h1 (by omega)
      case measure=>simp[intOf];omega
  . go_wp2_with fail
    go_ret;exact⟨Zjb (firstZ_none fun j h1 h2=>hall.out j h1 (by omega)).symm,m,rfl⟩
theorem Zks{w:World}{p g:Nat}{L:List Bool}(h:BRow w p g L)(s:Nat)(hs0:s<=L.length)(F:Int)(hF:F=Zdo L s):
 Calls Tryz.prog 227 #[.pointer (some ⟨p,0,none⟩),.int .i64 s] w fun e w'=>e=.returned (.int .i64 F)/\∃ m,w'=w.drewN m:=by
 rw[hF];exact Zhe h s hs0
theorem bZeroFrom_val0{w:World}{p g:Nat}{L:List Bool}(h:BRow w p g L)(n:Nat)(F:Int)(hF:F=Zdo L 0):
 Calls Tryz.prog 227 #[.pointer (some ⟨p,0,none⟩),.int .i64 0] (w.drewN n) fun e w'=>e=.returned (.int .i64 F)/\∃ m,w'=w.drewN m:=by
 rw[hF];exact(Zhe (h.drewN n) 0 (by omega)).mono fun e w' ⟨he,m,hw⟩=>⟨he,n+m,by rw[hw,World.drewN_drewN]⟩
theorem bZeroFrom_w0{w:World}{p g:Nat}{L:List Bool}(h:BRow w p g L)(F:Int)(hF:F=Zdo L 0):
 Calls Tryz.prog 227 #[.pointer (some ⟨p,0,none⟩),.int .i64 0] w fun e w'=>e=.returned (.int .i64 F)/\∃ m,w'=w.drewN m:=by
 rw[hF];exact Zhe h 0 (by omega)
theorem bFirst_any{w:World}{p g:Nat}{L:List Bool}(h:BRow w p g L)(goal:Int):
 Calls Tryz.prog 213 #[.pointer (some ⟨p,0,none⟩),.int .i64 goal] w fun e w'=>e=.returned (.int .i64 (firstS L goal))/\∃ m,w'=w.drewN m:=by
 have hn:=h.1;obtain⟨l,hr,hc,hs,hx,hf,hg⟩:=h.cells;clear hr hs hx hf hg;obtain⟨R,hR⟩:∃ R,R=firstS L goal:=⟨_,rfl⟩;rw[<- hR];by_cases hi:0<=goal/\goal<L.length
 . obtain⟨k,rfl⟩:∃ k:Nat,goal=k:=⟨goal.toNat,by omega⟩
   rw[firstS,if_pos hi,Int.toNat_natCast] at hR;obtain⟨F,hF⟩:∃ F,F=Zdo L k:=⟨_,rfl⟩;rw[<- hF] at hR;by_cases hp:0<=F
   . rw[if_pos hp] at hR
     have HR:=hid hR;have HF:=hid hF;clear hR hF;go_enter Tryz.func213,Tryz.ntmps213
     go_wp2_with (first
      |(go_at_call 100;refine(bHas_in p _ k _ hc (by omega) hi.2).mono ?_;rintro e w' ⟨rfl,rfl⟩)
      |(go_at_call 227;refine(Zks h k (by omega) F HF.out).mono ?_;rintro e w' ⟨rfl,m2,rfl⟩))
     go_ret;exact⟨Zjb HR.out.symm,m2,rfl⟩
   . rw[if_neg hp] at hR
     have HR:=hid hR;have HF:=hid hF;clear hR hF;go_enter Tryz.func213,Tryz.ntmps213
     go_wp2_with (first
      |(go_at_call 100;refine(bHas_in p _ k _ hc (by omega) hi.2).mono ?_;rintro e w' ⟨rfl,rfl⟩)
      |(go_at_call 227;(with_reducible refine(Zks h k (by omega) F HF.out).mono ?_);rintro e w' ⟨rfl,m2,rfl⟩)
      |(go_at_call 227;(with_reducible refine(bZeroFrom_val0 h _ R HR.out).mono ?_);rintro e w' ⟨rfl,m3,rfl⟩))
     go_ret;exact⟨rfl,_,rfl⟩
 . rw[firstS,if_neg hi] at hR
   have HR:=hid hR;clear hR;go_enter Tryz.func213,Tryz.ntmps213
   go_wp2_with (first
    |(go_at_call 100;refine(bHas_out p _ goal _ hc hi).mono ?_;rintro e w' ⟨rfl,rfl⟩)
    |(go_at_call 227;(with_reducible refine(bZeroFrom_w0 h R HR.out).mono ?_);rintro e w' ⟨rfl,m3,rfl⟩))
   go_ret;exact⟨rfl,_,rfl⟩
theorem bCount_any{w:World}{p g:Nat}{L:List Bool}(h:BRow w p g L):
 Calls Tryz.prog 31 #[.pointer (some ⟨p,0,none⟩)] w fun e w'=>e=.returned (.int .i64 (Zcr L))/\∃ m,w'=w.drewN m:=by
 have hn:=h.1;go_enter Tryz.func31,Tryz.ntmps31;go_wp2_with (go_at_call 58;refine(bLen_row h).mono ?_;rintro e w' ⟨rfl,rfl⟩)
 go_loopw [3,7] (fun c i wr=>∃ k:Nat,k<=L.length/\i=.int .i64 k/\c=.int .i64 (Zcr (L.take k))/\∃ m,wr=w.drewN m)
  (fun _ i _=>L.length-(intOf i).toNat)
 case atStart=>exact⟨0,by omega,rfl,rfl,0,rfl⟩
 case round=>
  obtain⟨k,hk,rfl,rfl,m,rfl⟩:=hrel;have hle:=Zix L k;obtain⟨C,hC⟩:∃ C,C=Zcr (L.take k):=⟨_,rfl⟩;rw[<- hC] at hle |-
  by_cases hlt:k<L.length
  . have hstep:=countB_take hlt
    cases hb:L.getD k false
    . rw[hb,if_neg (by decide),<- hC] at hstep
      have HB:=hid hb;have HS:=hid hstep;clear hb hstep hC;go_wp2_with (go_at_call 59;refine(bGet_val h k _ false HB.out).mono ?_;rintro e w' ⟨rfl,m2,rfl⟩)
      go_roundw
      case rel=>exact⟨k+1,by omega,by go_num,by rw[HS.out];go_num,m2,rfl⟩
      case measure=>simp[intOf];omega
    . rw[hb,if_pos rfl,<- hC] at hstep
      have HB:=hid hb;have HS:=hid hstep;clear hb hstep hC;go_wp2_with (go_at_call 59;refine(bGet_val h k _ true HB.out).mono ?_;rintro e w' ⟨rfl,m2,rfl⟩)
      go_roundw
      case rel=>exact⟨k+1,by omega,by go_num,by rw[HS.out];go_num,m2,rfl⟩
      case measure=>simp[intOf];omega
  . have HC:=hid hC
    clear hC;go_wp2_with fail
    go_ret;exact⟨Zjb (by rw[HC.out,List.take_of_length_le (by omega)]),m,rfl⟩
end Go.Proofs.YtedabomlfcghoaaGreat
namespace Go.Proofs.YtedabomlfcghoaaGreat
set_option maxRecDepth 100000
open Go.RowKit
theorem ret_i{k:IntKind}{a b:Int}(h:a=b):Ending.returned (.int k a)=.returned (.int k b):=by rw[h]
def frmB(b:Int):Bool:=decide (1<=b/\b<=768/\b%64=0)
def grsI(b:Int):Int:=if frmB b=true then b / 64 else 0
def grpI(n:Int):Int:=if n<0 then -1 else n / 64
def dscI(g:Int):Int:=if 0<=g/\g<12 then (if g=0 then 1 else g*64) else -1
def ownI(g:Int):Int:=if 0<=g/\g<12 then dscI g+1 else -1
def fixB(n:Int):Bool:=decide ((0<=n/\n<43)\/n=63\/(64<=n/\n<768/\n%64<2))
def romI(b:Int):Int:=if frmB b=true then 62*(b / 64)-48 else 0
theorem frm_yes{b:Int}(h:frmB b=true):∃ k:Nat,1<=k/\k<=12/\b=64*(k:Int):=by
 have:=of_decide_eq_true h;exact⟨(b / 64).toNat,by omega,by omega,by omega⟩
theorem frm_mk(k:Nat)(h1:1<=k)(h2:k<=12):frmB (64*(k:Int))=true:=decide_eq_true (by omega)
def cntO:Nat->Nat
 |0=>0
 |n+1=>if fixB (n:Int)=true then cntO n else cntO n+1
def cntF:Nat->Nat
 |0=>0
 |n+1=>if fixB (n:Int)=true then cntF n+1 else cntF n
theorem cnt_all(n:Nat):cntO n+cntF n=n:=by
 induction n with
 |zero=>rfl
 |succ n ih=>unfold cntO cntF;by_cases h:fixB (n:Int)=true <;> simp only[h,if_pos,if_false,Bool.false_eq_true] <;> omega
theorem cntO_le(n:Nat):cntO n<=n:=by have:=cnt_all n;omega
theorem cntO_first:∀ n:Nat,n<=43->cntO n=0:=by
 intro n;induction n with
 |zero=>intro _;rfl
 |succ n ih=>intro h;unfold cntO;rw[if_pos (by unfold fixB;exact decide_eq_true (by omega)),ih (by omega)]
theorem cntO_second:∀ n:Nat,43<=n->n<=63->cntO n=n-43:=by
 intro n;induction n with
 |zero=>intro h;omega
 |succ n ih=>
  intro h1 h2;by_cases e:n=42
  . subst e;rw[cntO_first 43 (by omega)]
  . unfold cntO;rw[if_neg (by unfold fixB;simp only[decide_eq_true_eq];omega),ih (by omega) (by omega)];omega
theorem cntO_64:cntO 64=20:=by
 unfold cntO;rw[if_pos (by decide),cntO_second 63 (by omega) (by omega)]
theorem cntO_in(k:Nat)(h1:1<=k)(h2:k<12)(c:Nat)(hc:cntO (64*k)=c):∀ j:Nat,j<=64->cntO (64*k+j)=c+(j-2):=by
 intro j;induction j with
 |zero=>intro _;simpa using hc
 |succ j ih=>
  intro h;show cntO (64*k+j+1)=_
  by_cases hj:j<2
  . unfold cntO;rw[if_pos (by unfold fixB;exact decide_eq_true (by omega)),ih (by omega)];omega
  . unfold cntO;rw[if_neg (by unfold fixB;simp only[decide_eq_true_eq];omega),ih (by omega)];omega
theorem cntO_mul:∀ k:Nat,1<=k->k<=12->cntO (64*k)+42=62*k:=by
 intro k;induction k with
 |zero=>intro h;omega
 |succ k ih=>
  intro h1 h2;by_cases e:k=0
  . subst e;rw[show 64*(0+1)=64 from rfl,cntO_64]
  . have:=ih (by omega) (by omega)
    rw[show 64*(k+1)=64*k+64 by omega,cntO_in k (by omega) (by omega) _ rfl 64 (by omega)];omega
end Go.Proofs.YtedabomlfcghoaaGreat
namespace Go.Proofs.YtedabomlfcghoaaGreat
set_option maxRecDepth 100000
open Go.RowKit BM
def frmO(i a:Int):Bool:=
 if i=0\/i=65535 then decide (a=0) else if i=65534 then decide (a<6) else decide (i<48) && (decide (a<138) || decide (a=65535))
def OwB(O:List (Int × Int)):Prop:=∀ j,(0<=(O.getD j (0,0)).1/\(O.getD j (0,0)).1<=65535)/\(0<=(O.getD j (0,0)).2/\(O.getD j (0,0)).2<=65535)
def frmJ(O:List (Int × Int))(j:Nat):Bool:=frmO (O.getD j (0,0)).1 (O.getD j (0,0)).2
def frmK(O:List (Int × Int)):Nat->Bool
 |0=>true
 |k+1=>frmK O k && frmJ O k
def allO(O:List (Int × Int)):Bool:=decide (O.length=64) && frmK O O.length
theorem frmK_iff(O:List (Int × Int))(k:Nat):frmK O k=true ↔ ∀ j,j<k->frmJ O j=true:=by
 induction k with
 |zero=>exact⟨fun _ j h=>by omega,fun _=>rfl⟩
 |succ k ih=>
  rw[frmK,Bool.and_eq_true,ih];constructor
  . rintro⟨h1,h2⟩ j hj
    by_cases e:j=k
    . rw[e];exact h2
    . exact h1 j (by omega)
  . exact fun h=>⟨fun j hj=>h j (by omega),h k (by omega)⟩
theorem frmK_no{O:List (Int × Int)}{k n:Nat}(h:frmJ O k=false)(hk:k<n):frmK O n=false:=by
 cases hb:frmK O n
 . rfl
 . have:=(frmK_iff O n).1 hb k hk
   rw[h] at this;cases this
def Zdq(O:List (Int × Int)):Nat->List Int
 |0=>[]
 |k+1=>Zdq O k ++ lowB (O.getD k (0,0)).1 2 ++ lowB (O.getD k (0,0)).2 2
theorem Zcw(O:List (Int × Int))(k:Nat):(Zdq O k).length=4*k:=by
 induction k with
 |zero=>rfl
 |succ k ih=>rw[Zdq,List.length_append,List.length_append,ih,Zac,Zac];omega
def Zcs(O:List (Int × Int)):List Int:=Zdq O O.length
def ownJ(l:List Int)(j:Nat):Int × Int:=(getV l (4*j) 2,getV l (4*j+2) 2)
def ownK(l:List Int)(k:Nat):List (Int × Int):=(List.range k).map (ownJ l)
theorem Zdr(l:List Int)(k:Nat):(ownK l k).length=k:=by simp[ownK]
theorem ownK_getD(l:List Int)(k j:Nat)(h:j<k):(ownK l k).getD j (0,0)=ownJ l j:=by
 simp[ownK,List.getD_eq_getElem?_getD,h]
theorem getV2_bd{l:List Int}(h:∀ x∈l,0<=x/\x<=255)(a:Nat):0<=getV l a 2/\getV l a 2<=65535:=by
 have:=Zcz h a 2;have e:(256:Int) ^ 2=65536:=rfl;omega
theorem owB_of{O:List (Int × Int)}(h:∀ j,j<O.length->(0<=(O.getD j (0,0)).1/\(O.getD j (0,0)).1<=65535)/\(0<=(O.getD j (0,0)).2/\(O.getD j (0,0)).2<=65535)):OwB O:=fun j=>by
 by_cases hj:j<O.length
 . exact h j hj
 . rw[List.getD_eq_getElem?_getD,List.getElem?_eq_none (by omega)];decide
theorem owB_ownK{l:List Int}(h:∀ x∈l,0<=x/\x<=255)(k:Nat):OwB (ownK l k):=owB_of fun j hj=>by
 rw[Zdr] at hj;rw[ownK_getD l k j hj];exact⟨getV2_bd h _,getV2_bd h _⟩
def Zef(O:List (Int × Int))(j:Nat):Bool:=decide ((O.getD j (0,0)).1≠0)
def Zbe(O:List (Int × Int))(k:Nat):List Bool:=(List.range k).map (Zef O)
theorem Zbv(O:List (Int × Int))(k:Nat):(Zbe O k).length=k:=by simp[Zbe]
theorem usedK_getD(O:List (Int × Int))(k j:Nat)(h:j<k):(Zbe O k).getD j false=Zef O j:=by
 simp[Zbe,List.getD_eq_getElem?_getD,h]
theorem usedK_succ(O:List (Int × Int))(k:Nat):Zbe O (k+1)=Zbe O k ++ [Zef O k]:=by simp[Zbe,List.range_succ]
def freshJ(g:Int)(j:Nat):Int × Int:=(if fixB (64*g+(j:Int))=true then 65535 else 0,0)
def Zez(g:Int)(k:Nat):List (Int × Int):=(List.range k).map (freshJ g)
theorem Zhb(g:Int)(k:Nat):(Zez g k).length=k:=by simp[Zez]
theorem freshK_succ(g:Int)(k:Nat):Zez g (k+1)=Zez g k ++ [freshJ g k]:=by simp[Zez,List.range_succ]
def bitN(b:Bool):Int:=if b then 1 else 0
def byteJ(L:List Bool)(j:Nat):Int:=bitN (L.getD (8*j) false)+2*bitN (L.getD (8*j+1) false)+4*bitN (L.getD (8*j+2) false)+8*bitN (L.getD (8*j+3) false)+
 16*bitN (L.getD (8*j+4) false)+32*bitN (L.getD (8*j+5) false)+64*bitN (L.getD (8*j+6) false)+128*bitN (L.getD (8*j+7) false)
def Ziy(L:List Bool):List Int:=(List.range ((L.length+7) / 8)).map (byteJ L)
theorem Zco(b:Bool):0<=bitN b/\bitN b<=1:=by cases b <;> decide
theorem Zfm(b:Bool)(x:Int)(h:x=bitN b):decide (x=1)=b:=by subst h;cases b <;> rfl
theorem byte_bits(v0 v1 v2 v3 v4 v5 v6 v7:Int)(h0:0<=v0/\v0<=1)(h1:0<=v1/\v1<=1)(h2:0<=v2/\v2<=1)(h3:0<=v3/\v3<=1)(h4:0<=v4/\v4<=1)(h5:0<=v5/\v5<=1)(h6:0<=v6/\v6<=1)(h7:0<=v7/\v7<=1)(x:Int)
 (hx:x=v0+2*v1+4*v2+8*v3+16*v4+32*v5+64*v6+128*v7):
 x / 2 ^ 0%2=v0/\x / 2 ^ 1%2=v1/\x / 2 ^ 2%2=v2/\x / 2 ^ 3%2=v3/\x / 2 ^ 4%2=v4/\x / 2 ^ 5%2=v5/\x / 2 ^ 6%2=v6/\x / 2 ^ 7%2=v7:=by
 refine⟨?_,?_,?_,?_,?_,?_,?_,?_⟩ <;> omega
theorem byteJ_bit(L:List Bool)(j k:Nat)(hk:k<8):Zdl (byteJ L j) k=L.getD (8*j+k) false:=by
 obtain⟨e0,e1,e2,e3,e4,e5,e6,e7⟩:=byte_bits _ _ _ _ _ _ _ _ (Zco (L.getD (8*j) false)) (Zco (L.getD (8*j+1) false)) (Zco (L.getD (8*j+2) false)) (Zco (L.getD (8*j+3) false))
  (Zco (L.getD (8*j+4) false)) (Zco (L.getD (8*j+5) false)) (Zco (L.getD (8*j+6) false)) (Zco (L.getD (8*j+7) false)) (byteJ L j) rfl
 have e:k=0\/k=1\/k=2\/k=3\/k=4\/k=5\/k=6\/k=7:=by omega
 unfold Zdl;rcases e with rfl|rfl|rfl|rfl|rfl|rfl|rfl|rfl
 . exact Zfm _ _ e0
 . exact Zfm _ _ e1
 . exact Zfm _ _ e2
 . exact Zfm _ _ e3
 . exact Zfm _ _ e4
 . exact Zfm _ _ e5
 . exact Zfm _ _ e6
 . exact Zfm _ _ e7
theorem byteJ_bd(L:List Bool)(j:Nat):0<=byteJ L j/\byteJ L j<=255:=by
 have h0:=Zco (L.getD (8*j) false);have h1:=Zco (L.getD (8*j+1) false);have h2:=Zco (L.getD (8*j+2) false);have h3:=Zco (L.getD (8*j+3) false);have h4:=Zco (L.getD (8*j+4) false);have h5:=Zco (L.getD (8*j+5) false);have h6:=Zco (L.getD (8*j+6) false);have h7:=Zco (L.getD (8*j+7) false);unfold byteJ;omega
theorem Zcl(L:List Bool):(Ziy L).length=(L.length+7) / 8:=by simp[Ziy]
theorem bytesB_getD(L:List Bool)(j:Nat):(Ziy L).getD j 0=if j<(L.length+7) / 8 then byteJ L j else 0:=by
 unfold Ziy;rw[List.getD_eq_getElem?_getD,List.getElem?_map];by_cases h:j<(L.length+7) / 8
 . rw[if_pos h,List.getElem?_range h];rfl
 . rw[if_neg h,List.getElem?_eq_none (by simp;omega)];rfl
theorem rep_bytesB(L:List Bool):Rep (Ziy L) L:=by
 refine⟨Zcl L,fun j=>?_,fun j=>?_⟩
 . rw[bytesB_getD];split
   . exact byteJ_bd L j
   . decide
 . rw[bytesB_getD]
   by_cases h:j / 8<(L.length+7) / 8
   . rw[if_pos h,byteJ_bit L _ _ (Nat.mod_lt _ (by omega))]
     congr 1;omega
   . rw[if_neg h,bitAt_zero,List.getD_eq_getElem?_getD,List.getElem?_eq_none (by omega)];rfl
def descC(g:Int)(L:List Bool):List Int:=[100,101,115,99] ++ lowB g 2 ++ lowB (Zcr L) 2 ++ Ziy L
def Zhl(g:Int)(L:List Bool):List Int:=Zal (descC g L)
theorem descC_length(g:Int)(L:List Bool)(h:L.length=64):(descC g L).length=16:=by
 simp[descC,Zac,Zcl,h]
end Go.Proofs.YtedabomlfcghoaaGreat
