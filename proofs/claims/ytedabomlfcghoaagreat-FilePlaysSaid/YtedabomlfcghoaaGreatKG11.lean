/- What the law rests on: part 11. -/
import Derived.Maps.Keyed
import Derived.WideKeyEntry
import Derived.ArgAppend
import Derived.ChangeMaps5
import Derived.Maps.Own
import Derived.Maps.OwnSet
import Derived.Maps.Views
import Derived.Lib.SlKeysI
import Derived.Lib.SlMapMerge
import Derived.Shelf.SlIterI.Nil
import Derived.Shelf.SlMaps.Copy
import Derived.Shelf.SortM.Plain
import Derived.Shelf.SortM.SortNone
import Derived.Shelf.SlGeneric
import Derived.Test.YtedabomlfcghoaaGreatKG10
set_option linter.unusedVariables false
namespace Go.Proofs.YtedabomlfcghoaaGreat
set_option maxRecDepth 100000
open Go.RowKit
def w7(j:Nat):Nat:=if j<2 then 1 else if j=2 then 4 else 2
def p7:Nat->Nat
 |0=>0
 |j+1=>p7 j+w7 j
theorem w7_le(j:Nat):1<=w7 j/\w7 j<=4:=by unfold w7;split <;> (try split) <;> omega
theorem w7_two(j:Nat):w7 (3+j)=2:=by unfold w7;rw[if_neg (by omega),if_neg (by omega)]
theorem p7_two:∀ j,p7 (3+j)=6+2*j
 |0=>rfl
 |j+1=>by
  have:=p7_two j;show p7 (3+j)+w7 (3+j)=_
  rw[this,w7_two];omega
theorem p7_in(j:Nat)(hj:j<14):p7 j+w7 j<=28:=by
 by_cases h:j<3
 . have:j=0\/j=1\/j=2:=by omega
   rcases this with rfl|rfl|rfl <;> decide
 . obtain⟨k,rfl⟩:∃ k,j=3+k:=⟨j-3,by omega⟩
   rw[p7_two,w7_two];omega
theorem p7_end:p7 14=28:=rfl
def con7(L:List Int):Nat->List Int
 |0=>[]
 |j+1=>con7 L j ++ lowB (L.getD j 0) (w7 j)
theorem Zcf(L:List Int):∀ j,(con7 L j).length=p7 j
 |0=>rfl
 |j+1=>by rw[con7,List.length_append,Zcf L j,Zac];rfl
def enc7(L:List Int):List Int:=con7 L 14 ++ List.replicate 4 0
theorem Zjk(L:List Int):(enc7 L).length=32:=by rw[enc7,List.length_append,Zcf,List.length_replicate];rfl
theorem con7_split(L:List Int)(i:Nat):∀ j,i<j->∃ B,con7 L j=con7 L i ++ (lowB (L.getD i 0) (w7 i) ++ B):=by
 intro j;induction j with
 |zero=>intro h;omega
 |succ j ih=>
  intro h;by_cases e:i=j
  . subst e;exact⟨[],by rw[con7];simp⟩
  . obtain⟨B,hB⟩:=ih (by omega)
    exact⟨B ++ lowB (L.getD j 0) (w7 j),by rw[con7,hB];simp⟩
theorem Zha{L:List Int}(hL:L.length=14)(h:frmI L=true)(j:Nat)(hj:j<14):0<=L.getD j 0/\L.getD j 0<256 ^ w7 j:=by
 unfold frmI at h;split at h
 . have e:=of_decide_eq_true h
   have h0:L.getD j 0=0:=by
    rw[e]
    match j,hj with
    |0,_|1,_|2,_|3,_|4,_|5,_|6,_|7,_|8,_|9,_|10,_|11,_|12,_|13,_=>rfl
   have:=Zlg (w7 j);rw[h0];omega
 . unfold frmN at h
   simp only[Bool.and_eq_true,decide_eq_true_eq] at h;obtain⟨h1,h2,h3,h4,h5⟩:=h;have hm:most (L.getD 0 0)<=35328:=by unfold most;split <;> omega
   by_cases e0:j=0
   . subst e0;rw[show w7 0=1 from rfl,Int.pow_succ,Int.pow_zero];omega
   by_cases e1:j=1
   . subst e1;rw[show w7 1=1 from rfl,Int.pow_succ,Int.pow_zero];omega
   by_cases e2:j=2
   . subst e2;rw[show w7 2=4 from rfl,show(256:Int) ^ 4=4294967296 from rfl];omega
   obtain⟨k,rfl⟩:∃ k,j=3+k:=⟨j-3,by omega⟩;rw[w7_two,show(256:Int) ^ 2=65536 from rfl];by_cases ek:k=10
   . subst ek
     have:=inB_iff.1 h5;show 0<=L.getD 13 0/\L.getD 13 0<65536
     omega
   . have hd:=inB_iff.1 ((Zdj _).1 h4 k (by simp[hL];omega))
     have e:((L.drop 3).take 10).getD k 0=L.getD (3+k) 0:=by
      simp only[List.getD_eq_getElem?_getD,List.getElem?_take,List.getElem?_drop];rw[if_pos (by omega)]
     rw[e] at hd;omega
def rd7(c:List Int):List Int:=(List.range 14).map fun j=>getV c (p7 j) (w7 j)
theorem Zii(c:List Int):(rd7 c).length=14:=by simp[rd7]
theorem rd7_get(c:List Int)(j:Nat)(hj:j<14):(rd7 c).getD j 0=getV c (p7 j) (w7 j):=by
 simp[rd7,List.getD_eq_getElem?_getD,hj]
theorem list14{L M:List Int}(h:L.length=14)(h':M.length=14)(e:∀ j,j<14->L.getD j 0=M.getD j 0):L=M:=by
 apply List.ext_getElem (by rw[h,h']);intro i h1 h2;have:=e i (by omega)
 simpa [List.getD_eq_getElem?_getD,h1,h2] using this
theorem rd7_enc{L:List Int}(hL:L.length=14)(h:frmI L=true):rd7 (enc7 L)=L:=by
 refine list14 (Zii _) hL fun j hj=>?_
 rw[rd7_get _ _ hj,enc7];obtain⟨B,hB⟩:=con7_split L j 14 hj;obtain⟨h0,h1⟩:=Zha hL h j hj;rw[hB,List.append_assoc,List.append_assoc,<- Zcf L j];exact getV_in _ _ _ _ h0 h1
def Zir(c:List Int)(j:Nat):List Int:=(List.range 14).map fun i=>if i<j then getV c (p7 i) (w7 i) else 0
theorem Zfg(c:List Int)(j:Nat):(Zir c j).length=14:=by simp[Zir]
theorem rdTo7_set(c:List Int)(j:Nat):(Zir c j).set j (getV c (p7 j) (w7 j))=Zir c (j+1):=by
 apply List.ext_getElem (by rw[List.length_set,Zfg,Zfg]);intro i h1 h2;simp only[Zir,List.getElem_set,List.getElem_map,List.getElem_range];by_cases e:j=i
 . subst e;rw[if_pos rfl,if_pos (by omega)]
 . rw[if_neg e]
   by_cases h:i<j
   . rw[if_pos h,if_pos (by omega)]
   . rw[if_neg h,if_neg (by omega)]
theorem rdTo7_full(c:List Int):Zir c 14=rd7 c:=by
 unfold Zir rd7;apply List.map_congr_left;intro i hi;rw[if_pos (List.mem_range.1 hi)]
theorem rdTo7_zero(c:List Int):Zir c 0=zeroI:=by
 unfold Zir;rw[List.map_congr_left (g:=fun _=>(0:Int)) (fun i _=>if_neg (Nat.not_lt_zero _))];rfl
theorem getV7{c:List Int}(hb:Byt c)(j:Nat):0<=getV c (p7 j) (w7 j)/\getV c (p7 j) (w7 j)<4294967296:=by
 have h:=Zcz (Zbo hb) (p7 j) (w7 j);have:=Zgb (w7_le j).2;have e:(256:Int) ^ 4=4294967296:=rfl;omega
def allF(O:List (List Int)):Bool:=decide (O.length=8) && O.all frmI
def Zgq(O:List (List Int)):Prop:=∀ x∈O,x.length=14
theorem Zge{O:List (List Int)}(h:Zgq O)(k:Nat)(hk:k<O.length):(O.getD k []).length=14:=by
 have:O.getD k []=O[k]:=by simp[List.getD_eq_getElem?_getD,hk]
 rw[this];exact h _ (List.getElem_mem hk)
theorem all_iff(O:List (List Int)):O.all frmI=true ↔ ∀ j,j<O.length->frmI (O.getD j [])=true:=by
 rw[List.all_eq_true];constructor
 . intro h j hj
   have:O.getD j []=O[j]:=by simp[List.getD_eq_getElem?_getD,hj]
   rw[this];exact h _ (List.getElem_mem hj)
 . intro h x hx
   obtain⟨j,hj,rfl⟩:=List.getElem_of_mem hx;have:=h j hj
   simpa [List.getD_eq_getElem?_getD,hj] using this
theorem allF_yes{O:List (List Int)}(h8:O.length=8)(h:∀ j,j<8->frmI (O.getD j [])=true):allF O=true:=by
 unfold allF;rw[decide_eq_true h8,Bool.true_and,all_iff,h8];exact h
theorem allF_no{O:List (List Int)}{k:Nat}(h8:O.length=8)(hk:k<8)(h:frmI (O.getD k [])=false):allF O=false:=by
 cases ha:allF O
 . rfl
 . unfold allF at ha
   rw[Bool.and_eq_true] at ha;have:=(all_iff O).1 ha.2 k (by omega);rw[h] at this;cases this
theorem allF_len{O:List (List Int)}(h:allF O=true):O.length=8/\∀ j,j<8->frmI (O.getD j [])=true:=by
 unfold allF at h;rw[Bool.and_eq_true] at h;have h8:=of_decide_eq_true h.1;refine⟨h8,fun j hj=>(all_iff O).1 h.2 j (by omega)⟩
def Zeg(O:List (List Int)):Nat->List Int
 |0=>[]
 |k+1=>Zeg O k ++ enc7 (O.getD k [])
theorem Zda(O:List (List Int)):∀ k,(Zeg O k).length=32*k
 |0=>rfl
 |k+1=>by rw[Zeg,List.length_append,Zda O k,Zjk];omega
def encT(O:List (List Int)):List Int:=Zeg O 8
def chunk(l:List Int)(k:Nat):List Int:=(l.drop (32*k)).take 32
theorem chunk_length{l:List Int}(h:l.length=256)(k:Nat)(hk:k<8):(chunk l k).length=32:=by simp[chunk];omega
theorem encK7_split(O:List (List Int))(i:Nat):∀ j,i<j->∃ B,Zeg O j=Zeg O i ++ (enc7 (O.getD i []) ++ B):=by
 intro j;induction j with
 |zero=>intro h;omega
 |succ j ih=>
  intro h;by_cases e:i=j
  . subst e;exact⟨[],by rw[Zeg];simp⟩
  . obtain⟨B,hB⟩:=ih (by omega)
    exact⟨B ++ enc7 (O.getD j []),by rw[Zeg,hB];simp⟩
theorem chunk_enc(O:List (List Int))(k:Nat)(hk:k<8):chunk (encT O) k=enc7 (O.getD k []):=by
 obtain⟨B,hB⟩:=encK7_split O k 8 hk;unfold chunk encT;rw[hB,<- Zda O k,List.drop_left,<- Zjk (O.getD k []),List.take_left]
def rdJ(l:List Int)(k:Nat):List Int:=rd7 (chunk l k)
def rdT(l:List Int)(n:Nat):List (List Int):=(List.range n).map (rdJ l)
theorem Zld(l:List Int)(n:Nat):(rdT l n).length=n:=by simp[rdT]
theorem rdT_14(l:List Int)(n:Nat):Zgq (rdT l n):=fun x hx=>by
 obtain⟨j,_,rfl⟩:=List.mem_map.1 hx;exact Zii _
def Zdi(l:List Int)(n k:Nat):List (List Int):=(List.range n).map fun j=>if j<k then rdJ l j else zeroI
theorem Zdx(l:List Int)(n k:Nat):(Zdi l n k).length=n:=by simp[Zdi]
theorem rdTill7_set(l:List Int)(n k:Nat):(Zdi l n k).set k (rdJ l k)=Zdi l n (k+1):=by
 apply List.ext_getElem (by rw[List.length_set,Zdx,Zdx]);intro i h1 h2;simp only[Zdi,List.getElem_set,List.getElem_map,List.getElem_range];by_cases e:k=i
 . subst e;rw[if_pos rfl,if_pos (by omega)]
 . rw[if_neg e]
   by_cases h:i<k
   . rw[if_pos h,if_pos (by omega)]
   . rw[if_neg h,if_neg (by omega)]
theorem rdTill7_zero(l:List Int)(n:Nat):Zdi l n 0=List.replicate n zeroI:=by
 rw[List.eq_replicate_iff];refine⟨Zdx l n 0,fun x hx=>?_⟩;obtain⟨i,_,rfl⟩:=List.mem_map.1 hx;rw[if_neg (by omega)]
theorem rdTill7_full(l:List Int)(n:Nat):Zdi l n n=rdT l n:=by
 unfold Zdi rdT;apply List.map_congr_left;intro i hi;rw[if_pos (List.mem_range.1 hi)]
theorem rdTill7_14(l:List Int)(n k:Nat):Zgq (Zdi l n k):=fun x hx=>by
 obtain⟨j,_,rfl⟩:=List.mem_map.1 hx;split
 . exact Zii _
 . rfl
def hasT(l:List Int):Prop:=l.length=256/\allF (rdT l 8)=true/\encT (rdT l 8)=l
theorem rdT_enc{O:List (List Int)}(hO:Zgq O)(h:allF O=true):rdT (encT O) 8=O:=by
 obtain⟨h8,hf⟩:=allF_len h;apply List.ext_getElem (by rw[Zld,h8]);intro i h1 h2;have hi:i<8:=by omega
 have e:O.getD i []=O[i]:=by simp[List.getD_eq_getElem?_getD,h2]
 simp only[rdT,List.getElem_map,List.getElem_range,rdJ];rw[chunk_enc O i hi,rd7_enc (Zge hO i h2) (hf i hi),e]
theorem has_enc7{O:List (List Int)}(hO:Zgq O)(h:allF O=true):hasT (encT O):=by
 have e:=rdT_enc hO h;exact⟨by rw[encT,Zda],by rw[e];exact h,by rw[e]⟩
end Go.Proofs.YtedabomlfcghoaaGreat
namespace Go.Proofs.YtedabomlfcghoaaGreat
set_option maxRecDepth 100000
open Go.RowKit BM
def inT(N:List (List Int))(t:Nat):List (List Int):=(N.drop (8*t)).take 8
theorem Zgi{N:List (List Int)}{t:Nat}(h:N.length=48)(ht:t<6):(inT N t).length=8:=by
 unfold inT;rw[List.length_take,List.length_drop];omega
theorem inT_getD(N:List (List Int))(t:Nat){j:Nat}(hj:j<8):(inT N t).getD j []=N.getD (8*t+j) []:=by
 unfold inT;rw[List.getD_eq_getElem?_getD,List.getElem?_take,if_pos hj,List.getElem?_drop,List.getD_eq_getElem?_getD]
theorem inT_set(N:List (List Int)){n t:Nat}(x:List Int)(ht:n / 8≠t):inT (N.set n x) t=inT N t:=by
 apply List.ext_getElem?;intro i;unfold inT;rw[List.getElem?_take,List.getElem?_take];split
 . rw[List.getElem?_drop,List.getElem?_drop,List.getElem?_set_ne (by omega)]
 . rfl
theorem inT_set_self(N:List (List Int))(n:Nat)(x:List Int):inT (N.set n x) (n / 8)=(inT N (n / 8)).set (n%8) x:=by
 apply List.ext_getElem?;intro i;unfold inT;rw[List.getElem?_take];by_cases hi:i<8
 . rw[if_pos hi,List.getElem?_drop]
   by_cases he:n%8=i
   . have e1:8*(n / 8)+i=n:=by omega
     rw[e1];by_cases hn:n<N.length
     . rw[List.getElem?_set_self hn,he,List.getElem?_set_self (by rw[List.length_take,List.length_drop];omega)]
     . rw[List.getElem?_eq_none (by rw[List.length_set];omega),List.getElem?_eq_none (by rw[List.length_set,List.length_take,List.length_drop];omega)]
   . rw[List.getElem?_set_ne (by omega),List.getElem?_set_ne he,List.getElem?_take,if_pos hi,List.getElem?_drop]
 . rw[if_neg hi,List.getElem?_eq_none]
   rw[List.length_set,List.length_take];omega
structure NOk (N:List (List Int)):Prop where
 len:N.length=48
 l14:Zgq N
 frm:∀ j,j<48->frmI (N.getD j [])=true
theorem NOk.get{N:List (List Int)}(h:NOk N){j:Nat}(hj:j<48):(N.getD j []).length=14:=Zge h.l14 j (by rw[h.len];exact hj)
theorem NOk.set{N:List (List Int)}(h:NOk N)(n:Nat){x:List Int}(hx:x.length=14)(hf:frmI x=true):NOk (N.set n x):=by
 have hl:=h.len;refine⟨by rw[List.length_set];exact hl,fun y hy=>?_,fun j hj=>?_⟩
 . rcases List.mem_or_eq_of_mem_set hy with h1|h1
   . exact h.l14 y h1
   . rw[h1];exact hx
 . by_cases e:j=n
   . subst e;rw[List.getD_eq_getElem?_getD,List.getElem?_set_self (by omega)];exact hf
   . rw[List.getD_eq_getElem?_getD,List.getElem?_set_ne (Ne.symm e),<- List.getD_eq_getElem?_getD];exact h.frm j hj
theorem inT_14{N:List (List Int)}(h:Zgq N)(t:Nat):Zgq (inT N t):=fun x hx=>h x (List.mem_of_mem_drop (List.mem_of_mem_take hx))
theorem NOk.all{N:List (List Int)}(h:NOk N){t:Nat}(ht:t<6):Zgq (inT N t)/\allF (inT N t)=true:=
 ⟨inT_14 h.l14 t,allF_yes (Zgi h.len ht) fun j hj=>by rw[inT_getD N t hj];exact h.frm _ (by omega)⟩
def Zbq(S:List Int)(t:Nat):Nat:=(num S (6+t)).toNat
structure Tab (G:List (List Int)) (S:List Int) (N:List (List Int)):Prop where
 s12:S.length=12
 sf:frmS S=true
 n:NOk N
 g0:G.getD 0 []=encS S
 g63:G.getD 63 []=encS S
 tb:∀ t,t<6->G.getD (Zbq S t) []=encT (inT N t)
 le:num S 0<=G.length
theorem Zaf{α:Type}(G:List α){i m:Nat}(x d:α)(h:m≠i):(G.set i x).getD m d=G.getD m d:=by
 rw[List.getD_eq_getElem?_getD,List.getElem?_set_ne (Ne.symm h),<- List.getD_eq_getElem?_getD]
theorem Zdh{S:List Int}(hf:frmS S=true){t:Nat}(ht:t<6):num S (6+t)=(Zbq S t:Int)/\(Zbq S t:Int)<num S 0/\num S 0<=768/\fixB (Zbq S t:Int)=false/\OutJ (Zbq S t)/\Zbq S t≠0/\Zbq S t≠63:=by
 obtain⟨h1,_,h3⟩:=frm_bound hf;obtain⟨k,k1,k12,hk⟩:=frm_yes h1;obtain⟨⟨a1,a2⟩,a3,_⟩:=frm_tab h3 t ht;have e:num S (6+t)=(Zbq S t:Int):=by unfold Zbq;omega
 rw[e] at a1 a2 a3;have hx:=of_decide_eq_false a3;refine⟨e,by omega,by omega,a3,?_,by omega,by omega⟩;unfold OutJ;omega
theorem tabAt_ne{S:List Int}(hf:frmS S=true){t s:Nat}(ht:t<6)(hs:s<6)(h:t≠s):Zbq S t≠Zbq S s:=by
 have h3:=(frm_bound hf).2.2;have a:=(Zdh hf ht).1;have b:=(Zdh hf hs).1;intro e;rw[e] at a;rcases Nat.lt_or_gt_of_ne h with hl|hl
 . exact(frm_tab h3 s hs).2.2 t hl (by rw[a,b])
 . exact(frm_tab h3 t ht).2.2 s hl (by rw[a,b])
section
variable {G:List (List Int)}{S:List Int}{N:List (List Int)}
theorem Tab.at(h:Tab G S N){t:Nat}(ht:t<6):Zbq S t<G.length:=by
 have:=Zdh h.sf ht;have:=h.le;omega
theorem Tab.same(h:Tab G S N){G':List (List Int)}(hl:G'.length=G.length)(he:∀ i,i=0\/i=63\/(∃ t,t<6/\i=Zbq S t)->G'.getD i []=G.getD i []):Tab G' S N:=
 ⟨h.s12,h.sf,h.n,by rw[he 0 (.inl rfl)];exact h.g0,by rw[he 63 (.inr (.inl rfl))];exact h.g63,fun t ht=>by rw[he _ (.inr (.inr ⟨t,ht,rfl⟩))];exact h.tb t ht,by rw[hl];exact h.le⟩
theorem Tab.putI(h:Tab G S N){n:Nat}(hn:n<48){x:List Int}(hx:x.length=14)(hf:frmI x=true):Tab (G.set (Zbq S (n / 8)) (encT (inT (N.set n x) (n / 8)))) S (N.set n x):=by
 have ht:n / 8<6:=by omega
 have hin:=Zdh h.sf ht;have hl:=h.at ht;refine⟨h.s12,h.sf,h.n.set n hx hf,?_,?_,fun t ht2=>?_,by rw[List.length_set];exact h.le⟩
 . rw[Zaf _ _ _ (Ne.symm hin.2.2.2.2.2.1)];exact h.g0
 . rw[Zaf _ _ _ (Ne.symm hin.2.2.2.2.2.2)];exact h.g63
 . by_cases e:t=n / 8
   . subst e;rw[List.getD_eq_getElem?_getD,List.getElem?_set_self hl];rfl
   . rw[Zaf _ _ _ (tabAt_ne h.sf ht2 ht e),inT_set N x (Ne.symm e)];exact h.tb t ht2
theorem Zkk{g:Nat}(hg:g<12):fixB (dscN g:Int)=true/\fixB ((dscN g+1:Nat):Int)=true/\dscN g≠0/\dscN g+1≠63/\dscN g≠63:=by
 unfold dscN fixB;split <;> refine⟨decide_eq_true (by omega),decide_eq_true (by omega),by omega,by omega,by omega⟩
theorem Tab.putG(h:Tab G S N){g:Nat}(hg:g<12)(D:List (Int × Int)):Tab (putG G g D) S N:=by
 have hx:=Zkk hg;refine h.same (by unfold Go.Proofs.YtedabomlfcghoaaGreat.putG;rw[List.length_set,List.length_set]) fun i hi=>?_
 have h12:i≠dscN g/\i≠dscN g+1:=by
  rcases hi with rfl|rfl| ⟨t,ht,rfl⟩
  . omega
  . omega
  . have hin:=(Zdh h.sf ht).2.2.2.1
    constructor
    . intro e;rw[e,hx.1] at hin;cases hin
    . intro e;rw[e,hx.2.1] at hin;cases hin
 unfold Go.Proofs.YtedabomlfcghoaaGreat.putG;rw[Zaf _ _ _ h12.1,Zaf _ _ _ h12.2]
end
theorem Has.other{G:List (List Int)}{O:List (Int × Int)}{k:Nat}(h:Has G O k)(hk:k<=12){i:Nat}(hi:i=0\/i=63\/fixB (i:Int)=false)(x:List Int):Has (G.set i x) O k:=by
 have hne:∀ g,g<k->dscN g≠i/\dscN g+1≠i:=fun g hg=>by
  have hx:=Zkk (show g<12 by omega);rcases hi with rfl|rfl|hi
  . omega
  . omega
  . constructor
    . intro e;rw[<- e,hx.1] at hi;cases hi
    . intro e;rw[<- e,hx.2.1] at hi;cases hi
 exact⟨by rw[List.length_set];exact h.len,fun g hg=>by rw[Zaf _ _ _ (hne g hg).1];exact h.ds g hg,fun g hg=>by rw[Zaf _ _ _ (hne g hg).2];exact h.ow g hg⟩
theorem encS_len{S:List Int}:(encS S).length=256:=by rw[encS];exact Zbb _ (by rw[con_le];decide)
theorem encT_len(O:List (List Int)):(encT O).length=256:=Zda O 8
def newS(kk:Nat):List Int:=[64*(kk:Int),0,0,0,0,0,43,44,45,46,47,48]
def rootI:List Int:=[2,1,0,0,0,0,0,0,0,0,0,0,0,0]
def newN:List (List Int):=(List.replicate 48 zeroI).set 1 rootI
theorem newN_ok:NOk newN:=by
 refine⟨rfl,?_,?_⟩
 . intro x hx
   rcases List.mem_or_eq_of_mem_set hx with h|h
   . rw[List.eq_of_mem_replicate h];rfl
   . rw[h];rfl
 . decide
theorem newS_frm{kk:Nat}(h1:1<=kk)(h2:kk<=12):frmS (newS kk)=true:=by
 unfold frmS;have e0:num (newS kk) 0=64*(kk:Int):=rfl;rw[e0,frm_mk kk h1 h2,Bool.and_eq_true,Bool.and_eq_true];have hn:∀ k:Nat,k<6->num (newS kk) (6+k)=43+(k:Int):=fun k hk=>by
  have hi2:k=0\/k=1\/k=2\/k=3\/k=4\/k=5:=by omega
  rcases hi2 with rfl|rfl|rfl|rfl|rfl|rfl <;> rfl
 refine⟨rfl,rfl,(Zic _ 6).2 fun i hi=>?_⟩;unfold okTS;rw[e0,hn i hi];refine⟨by omega,?_,fun k hk=>by rw[hn k (by omega)];omega⟩;unfold fixB;exact decide_eq_false (by omega)
def T3(G:List (List Int))(c:Nat):Prop:=∀ t,t<c->G.getD (43+t) []=encT (inT newN t)
theorem T3.zero(G:List (List Int)):T3 G 0:=fun t h=>absurd h (Nat.not_lt_zero _)
theorem T3.put{G:List (List Int)}{k:Nat}(h:T3 G k)(hl:43+k<G.length){x:List Int}(hx:x=encT (inT newN k)):T3 (G.set (43+k) x) (k+1):=fun t ht=>by
 by_cases e:t=k
 . subst e;rw[List.getD_eq_getElem?_getD,List.getElem?_set_self hl,hx];rfl
 . rw[Zaf _ _ _ (by omega)];exact h t (by omega)
theorem T3.other{G:List (List Int)}{k:Nat}(h:T3 G k){i:Nat}(hi:i<43\/49<=i)(hk:k<=6)(x:List Int):T3 (G.set i x) k:=fun t ht=>by
 rw[Zaf _ _ _ (by omega)];exact h t ht
theorem newT_other{k:Nat}(h:k<6)(h0:k≠0):List.replicate 8 zeroI=inT newN k:=by
 have hi2:k=1\/k=2\/k=3\/k=4\/k=5:=by omega
 rcases hi2 with rfl|rfl|rfl|rfl|rfl <;> rfl
theorem newT_frm:allF ((List.replicate 8 zeroI).set 1 rootI)=true/\allF (List.replicate 8 zeroI)=true:=by decide
structure New3 (G:List (List Int)) (kk:Nat):Prop where
 t:T3 G 6
 g0:G.getD 0 []=encS (newS kk)
 g63:G.getD 63 []=encS (newS kk)
theorem New3.tab{G:List (List Int)}{kk:Nat}(h:New3 G kk)(h1:1<=kk)(h2:kk<=12)(hl:G.length=64*kk):Tab G (newS kk) newN:=
 ⟨rfl,newS_frm h1 h2,newN_ok,h.g0,h.g63,fun t ht=>by
   have hi2:t=0\/t=1\/t=2\/t=3\/t=4\/t=5:=by omega
   have:=h.t t ht;rcases hi2 with rfl|rfl|rfl|rfl|rfl|rfl <;> exact this,by rw[hl];show 64*(kk:Int)<=_;omega⟩
theorem T3.sup{G:List (List Int)}(h:T3 G 6)(kk:Nat)(hl:63<G.length){x:List Int}(hx:x=encS (newS kk)):New3 ((G.set 0 x).set 63 x) kk:=by
 refine⟨(h.other (.inl (by decide)) (by decide) x).other (.inr (by decide)) (by decide) x,?_,?_⟩
 . rw[Zaf _ _ _ (by decide),List.getD_eq_getElem?_getD,List.getElem?_set_self (by omega),hx];rfl
 . rw[List.getD_eq_getElem?_getD,List.getElem?_set_self (by rw[List.length_set];exact hl),hx];rfl
theorem spPoss_any(n:Int)(w:World):Calls Tryz.prog 206 #[.int .i64 n] w fun e w'=>e=.returned (.bool (decide (0<=n/\n<768)))/\w=w':=by
 by_cases h0:0<=n
 . by_cases h1:n<768
   . rw[decide_eq_true ⟨h0,h1⟩]
     go_enter Tryz.func206,Tryz.ntmps206;go_wp2;go_ret;exact⟨rfl,rfl⟩
   . rw[decide_eq_false (fun h=>h1 h.2)]
     go_enter Tryz.func206,Tryz.ntmps206;go_wp2;go_ret;exact⟨rfl,rfl⟩
 . rw[decide_eq_false (fun h=>h0 h.1)]
   go_enter Tryz.func206,Tryz.ntmps206;go_wp2;go_ret;exact⟨rfl,rfl⟩
theorem spPoss_is(n:Int)(B:Bool)(h:decide (0<=n/\n<768)=B)(w:World):Calls Tryz.prog 206 #[.int .i64 n] w fun e w'=>e=.returned (.bool B)/\w=w':=by
 rw[<- h];exact spPoss_any n w
def openN(n:Int):Bool:=decide (0<=n/\n<768) && !fixB n
theorem spOpen_any(n:Int)(hm:n<=9223372036854775807)(w:World):Calls Tryz.prog 191 #[.int .i64 n] w fun e w'=>e=.returned (.bool (openN n))/\w=w':=by
 cases hp:decide (0<=n/\n<768)
 . have e1:openN n=false:=by rw[openN,hp];rfl
   rw[e1];have KP:=hid (spPoss_is n false hp);clear hp e1;go_enter Tryz.func191,Tryz.ntmps191;go_wp2_with (go_at_call 206;refine(KP.out _).mono ?_;rintro e w' ⟨rfl,rfl⟩)
   go_ret;exact⟨rfl,rfl⟩
 . obtain⟨F,hF⟩:∃ F,F=fixB n:=⟨_,rfl⟩
   have e1:openN n=!F:=by rw[openN,hp,hF];rfl
   rw[e1];have KP:=hid (spPoss_is n true hp);have KF:=hid (Zkg n hm F hF.symm);clear hp e1 hF;cases F
   all_goals
    go_enter Tryz.func191,Tryz.ntmps191
    go_wp2_with (first
     |(go_at_call 206;refine(KP.out _).mono ?_;rintro e w' ⟨rfl,rfl⟩)
     |(go_at_call 146;refine(KF.out _).mono ?_;rintro e w' ⟨rfl,rfl⟩))
    go_ret;exact⟨rfl,rfl⟩
theorem spOpen_is(n:Int)(hm:n<=9223372036854775807)(B:Bool)(h:openN n=B)(w:World):Calls Tryz.prog 191 #[.int .i64 n] w fun e w'=>e=.returned (.bool B)/\w=w':=by
 rw[<- h];exact spOpen_any n hm w
def freeP(i a:Int):Bool:=(i==0) && (a==0)
theorem spFree_any(i a:Int)(w:World):Calls Tryz.prog 57 #[.agg #[.int .u16 i,.int .u16 a]] w fun e w'=>e=.returned (.bool (freeP i a))/\Below w.heap.size w w':=by
 have hob:=Zaa w (.cells #[.int .u16 i,.int .u16 a] 109);cases h1:(i==0)
 all_goals cases h2:(a==0)
 all_goals
  rw[freeP,h1,h2];go_enter Tryz.func57,Tryz.ntmps57;go_wp2;go_ret;exact⟨by simp,hob⟩
theorem Zhv(i a:Int)(B:Bool)(h:freeP i a=B)(w:World):Calls Tryz.prog 57 #[.agg #[.int .u16 i,.int .u16 a]] w fun e w'=>e=.returned (.bool B)/\Below w.heap.size w w':=by
 rw[<- h];exact spFree_any i a w
theorem spDesc_is{w:World}{v:Value}{O:List (Int × Int)}(hs:OwSl w v O)(g:Int)(hg1:0<=g)(hg2:g<12)(ha:allO O=true):
 Calls Tryz.prog 98 #[.int .i64 g,v] w fun e w'=>∃ v,e=.returned (.tuple #[v,.int .i64 0])/\OB w' w.heap.size v (Zhl g (Zbe O 64))/\Below w.heap.size w w':=by
 have HA:=hid (grOf_good hs g hg1 hg2 ha);have HE:=hid (fun(W:World) (p r:Nat) (h:BRow W p r (Zbe O 64))=>grEnc_yes h g hg1 hg2 (Zbv O 64));obtain⟨ao,cap,rfl⟩:=hs.shape;clear hs ha;go_enter Tryz.func98,Tryz.ntmps98
 go_wp2_with (first
  |(go_at_call 147;refine HA.out.mono ?_;rintro e w1 ⟨p,r,rfl,hrow,hb1⟩;have hrow2:=hrow.low (Zaa w1 (.cells #[.int .i64 g,.pointer (some ⟨p,0,none⟩)] 212));have hb2:=Zaa w1 (.cells #[.int .i64 g,.pointer (some ⟨p,0,none⟩)] 212))
  |(go_at_call 148;refine(HE.out _ p r hrow2).mono ?_;rintro e w3 ⟨v,rfl,hob,hb3⟩))
 go_ret2;exact⟨v,rfl,hob.more (by simp;have:=hb1.size;omega),(hb1.trans (hb2.mono hb1.size)).trans (hb3.mono (by simp;have:=hb1.size;omega))⟩
end Go.Proofs.YtedabomlfcghoaaGreat
namespace Go.Proofs.YtedabomlfcghoaaGreat
set_option maxRecDepth 100000
open Go.RowKit Go.ChangeMaps
def addS(S:List Int)(n:Int):List Int:=if n∈S then S else S ++ [n]
theorem iKeyed:Maps.Keyed Tryz.prog 3:=Maps.int_keyed Tryz.underlying3
theorem i64wf{n:Int}(h: -9223372036854775808<=n/\n<=9223372036854775807):(Lit.int .i64 n).wf=true:=by
 simp only[Lit.wf,Bool.and_eq_true,decide_eq_true_eq];exact h
theorem ikey{n:Int}(h:(Lit.int .i64 n).wf=true):keyOf Tryz.prog 3 (.int .i64 n)=some (.int .i64 n):=Maps.keyOf_int_mk Tryz.underlying3 h
section
variable {w:World}{b:Nat}{S:List Int}
end
end Go.Proofs.YtedabomlfcghoaaGreat
namespace Go.Proofs.YtedabomlfcghoaaGreat
set_option maxRecDepth 100000
open Go.RowKit
structure RSt where
 is:List (List Int)
 call:List (List Int)
 put:List Int
 sts:List (List (List Int))
 wi:Bool
theorem Zcx{w w':World}{B n size:Nat}{T:TypeId}{v:Value}{us:List Value}(h:w.ownsRow B T size v n us)(hk:∀ g,v.ownBlock=some g->w'.heap[g]? =w.heap[g]?):w'.ownsRow B T size v n us:=by
 refine⟨h.1,h.2.imp id ?_⟩;rintro⟨g,cap,cur,rfl,hB,hh,r⟩;exact⟨g,cap,cur,rfl,hB,by rw[hk g rfl];exact hh,r⟩
section
variable {w:World}{P M:Nat->Prop}{b m:Nat}{vI vC vP vS:Value}{s:RSt}
end
structure XSt where
 base:List (List Int)
 is:List (List Int)
 call:List (List Int)
 put:List Int
 wi:Bool
 dt:Nat
 ds:DS
structure XOk (X:XSt):Prop where
 lst:Lst X.is.length X.ds X.base
 pow:X.ds.dn=false
 un:X.ds.U.length<=1000
 call:X.wi=true->X.call.length=X.is.length
 dt:X.dt<=37
def DeadOk(n:Nat)(ds:DS)(l:List (List (List Int))):Prop:=ds.U.length<=1000/\ds.F.length=n/\∀ kp,∃ G∈l,Jst n (ds.crash kp).F G
def xBegin(X:XSt):Int × XSt:=if X.wi=true then (17,X) else (0,{ X with call:=X.is,put:=[],wi:=true })
def xPut(X:XSt)(n:Int)(l:List Int):Int × XSt:=
 if X.wi=false then (17,X) else if n<0\/(X.is.length:Int)<=n\/l.length≠256 then (1,X) else if n ∉ X.put/\37<=X.put.length then (13,X) else (0,{ X with call:=X.call.set n.toNat l,put:=addS X.put n })
def XOut(Inv:World->(Nat->Prop)->Value->Value->XSt->Prop)(w:World)(P:Nat->Prop)(d p:Value)(r:Int × XSt)(e:Ending)(w':World):Prop:=
 e=.returned (.int .i64 r.1)/\∃ P',Inv w' P' d p r.2/\Chg P P' w w'
def XDead(Dead:World->(Nat->Prop)->Value->Value->DS->Prop)(w:World)(P:Nat->Prop)(d p:Value)(X:XSt)(l:List (List (List Int)))(e:Ending)(w':World):Prop:=
 X.ds.fu=true/\e=.returned (.int .i64 2)/\∃ P' ds',Dead w' P' d p ds'/\Chg P P' w w'/\DeadOk X.is.length ds' l
structure Sto (Inv:World->(Nat->Prop)->Value->Value->XSt->Prop) (Dead:World->(Nat->Prop)->Value->Value->DS->Prop):Prop where
 plain:∀ {w P d p X},Inv w P d p X->XOk X
 ptr:∀ {w P d p X},Inv w P d p X->∃ b,p=.pointer (some ⟨b,0,none⟩)
 lt:∀ {w P d p X},Inv w P d p X->∀ k,P k->k<w.heap.size
 keep:∀ {w w' P d p X},Inv w P d p X->w.heap.size<=w'.heap.size->(∀ k,P k->w'.heap[k]? =w.heap[k]?)->Inv w' P d p X
 disk:∀ {w P d p X},Inv w P d p X->∃ Pd,(∀ k,Pd k->P k)/\Dk w Pd d X.ds
 deadLt:∀ {w P d p ds},Dead w P d p ds->∀ k,P k->k<w.heap.size
 deadKeep:∀ {w w' P d p ds},Dead w P d p ds->w.heap.size<=w'.heap.size->(∀ k,P k->w'.heap[k]? =w.heap[k]?)->Dead w' P d p ds
 deadDisk:∀ {w P d p ds},Dead w P d p ds->∃ Pd,(∀ k,Pd k->P k)/\Dk w Pd d ds
 begin:∀ {w P d p X},Inv w P d p X->Calls Tryz.prog 18 #[p] w (XOut Inv w P d p (xBegin X))
 put:∀ {w P d p X n v l},Inv w P d p X->BSl w v l-> -9223372036854775808<=n/\n<=9223372036854775807->OutJ n.toNat->Calls Tryz.prog 67 #[p,.int .i64 n,v] w (XOut Inv w P d p (xPut X n l))
 getOut:∀ {w P d p X n},Inv w P d p X-> -9223372036854775808<=n/\n<=9223372036854775807->n<0\/(X.is.length:Int)<=n->Calls Tryz.prog 61 #[p,.int .i64 n] w fun e w'=>e=.returned (.tuple #[.slice none 0 0,.int .i64 1])/\∃ P',Inv w' P' d p X/\Chg P P' w w'
 getIn:∀ {w P d p X} {n:Nat},Inv w P d p X->n<X.is.length->Calls Tryz.prog 61 #[p,.int .i64 n] w fun e w'=>∃ v l,e=.returned (.tuple #[v,.int .i64 0])/\BSl w' v l/\(OutJ n->l=(if X.wi=true then X.call else X.is).getD n [])/\∃ P',Inv w' P' d p X/\Chg P P' w w'
 endNo:∀ {w P d p X k},Inv w P d p X->X.wi=false->Calls Tryz.prog 21 #[p,.bool k] w (XOut Inv w P d p (17,X))
 endUndo:∀ {w P d p X},Inv w P d p X->X.wi=true->Calls Tryz.prog 21 #[p,.bool false] w (XOut Inv w P d p (0,{ X with wi:=false }))
 endKeep:∀ {w P d p X},Inv w P d p X->X.wi=true->Calls Tryz.prog 21 #[p,.bool true] w fun e w'=>
  (∃ B dt ds',(B=X.base\/B=X.is\/B=X.call)/\ds'.fu=X.ds.fu/\XOut Inv w P d p (0,{ X with base:=B,is:=X.call,wi:=false,dt:=dt,ds:=ds' }) e w')\/XDead Dead w P d p X [X.base,X.is,X.call] e w'
 opens:∀ {w P d ds n G},Dk w P d ds->64<=n->n<=768->ds.U=[]->ds.dn=false->Jst n ds.F G->Calls Tryz.prog 46 #[d] w fun e w'=>
  (∃ p ds' P',e=.returned (.tuple #[p,.int .i64 0])/\ds'.fu=ds.fu/\Inv w' P' d p ⟨G,G,[],[],false,0,ds'⟩/\Chg P P' w w')\/
    (ds.fu=true/\e=.returned (.tuple #[.pointer none,.int .i64 2])/\∃ ds' P',Dk w' P' d ds'/\Chg P P' w w'/\DeadOk n ds' [G])
end Go.Proofs.YtedabomlfcghoaaGreat
namespace Go.Proofs.YtedabomlfcghoaaGreat
set_option maxRecDepth 100000
open Go.RowKit Go.Maps
def hdr(v:Value):Option (DataW Unit × List MemPlace):=
 match v with
 |.slice none 0 0=>some (.nil,[])
 |.slice (some ⟨b,off,none⟩) n c=>some (.agg [.lit (.int .u64 b),.lit (.int .u64 off),.lit (.int .u64 n),.lit (.int .u64 c)],[])
 |_=>none
theorem hdr_nil:hdr (.slice none 0 0)=some (.nil,[]):=rfl
theorem hdr_some(b off n c:Nat):hdr (.slice (some ⟨b,off,none⟩) n c)=some (.agg [.lit (.int .u64 b),.lit (.int .u64 off),.lit (.int .u64 n),.lit (.int .u64 c)],[]):=rfl
theorem hdr_cases{v:Value}{y:DataW Unit × List MemPlace}(h:hdr v=some y):(v=.slice none 0 0/\y=(.nil,[]))\/∃ b off n c,v=.slice (some ⟨b,off,none⟩) n c/\y=(.agg [.lit (.int .u64 b),.lit (.int .u64 off),.lit (.int .u64 n),.lit (.int .u64 c)],[]):=by
 unfold hdr at h;split at h
 . exact .inl ⟨rfl,(Option.some.inj h).symm⟩
 . exact .inr ⟨_,_,_,_,rfl,(Option.some.inj h).symm⟩
 . cases h
theorem hdr_inj{v v':Value}{d:DataW Unit}{ps ps':List MemPlace}(h:hdr v=some (d,ps))(h':hdr v'=some (d,ps')):v=v':=by
 rcases hdr_cases h with⟨rfl,e⟩| ⟨b,off,n,c,rfl,e⟩ <;> rcases hdr_cases h' with⟨rfl,e'⟩| ⟨b',off',n',c',rfl,e'⟩
 . rfl
 . have e1:=(Prod.mk.inj e).1.symm.trans (Prod.mk.inj e').1;cases e1
 . have e1:=(Prod.mk.inj e).1.symm.trans (Prod.mk.inj e').1;cases e1
 . have e1:=(Prod.mk.inj e).1.symm.trans (Prod.mk.inj e').1
   simp only[DataW.agg.injEq,List.cons.injEq,DataW.lit.injEq,Lit.int.injEq,true_and,and_true,Int.natCast_inj] at e1;obtain⟨rfl,rfl,rfl,rfl⟩:=e1;rfl
def Mp(w:World)(b:Nat)(N:List Int)(g:Int->Value):Prop:=
 ∃ D:DataW Unit,w.ownsMap Tryz.prog 3 hdr b N.length D/\N.Nodup/\(∀ x∈N,(Lit.int .i64 x).wf=true)/\(∀ x,Maps.has D (.int .i64 x)=decide (x∈N))/\∀ x∈N,∃ d,hdr (g x)=some (d,[])/\∀ z,D.atKey (.int .i64 x) z=d
theorem infoBys:(Tryz.prog.info? 30).map (fun i=>(i.zero,i.size,i.bytes))=some (some (.slice none 0 0),1,24):=by kernel_rfl
theorem zeroBys(w:World):(zeroValue 30).run Tryz.prog w=.ok (.slice none 0 0) w:=by
 obtain⟨t,h2,h3,_⟩:=info_parts infoBys;simp[zeroValue,typeInfo,h2,h3,Result.andThen]
theorem owns_tight{w:World}{b n:Nat}{D:DataW Unit}(h:w.ownsMap Tryz.prog 3 hdr b n D):w.ownsMap Tryz.prog 3 hdr b (Maps.size D) D:=by
 obtain⟨es,clock,hb,F,hs,rfl⟩:=h;exact⟨es,clock,hb,F,Nat.le_of_eq (by unfold Maps.size;exact(length_read es).symm),rfl⟩
theorem Zjw{w:World}{b n:Nat}{D:DataW Unit}(h:w.ownsMap Tryz.prog 3 hdr b n D){N:List Int}(hN:N.Nodup)(hh:∀ x,Maps.has D (.int .i64 x)=decide (x∈N)):N.Perm (intKeys D)/\Maps.size D=N.length:=by
 obtain⟨es,rfl,hp,_⟩:=h.entries iKeyed;have hk:∀ p∈es,∃ x,p.1=.int .i64 x:=fun p hp'=>by
  obtain⟨es',e1,_,k⟩:=h.canonK iKeyed;cases e1
  obtain⟨v,hv⟩:=k p hp';obtain⟨x,_,e,_⟩:=Maps.keyOf_i64 Tryz.underlying3 hv;exact⟨x,e⟩
 have hperm:=perm_intKeys hp hk hN (fun x=>by rw[hh x,decide_eq_true_eq]);refine⟨hperm,?_⟩;have:=hperm.length_eq;rw[this];show es.length=(es.map fun p=>_root_.Go.intOf p.1).length
 rw[List.length_map]
theorem owns_mp{w:World}{b n:Nat}{D:DataW Unit}(h:w.ownsMap Tryz.prog 3 hdr b n D){N:List Int}{g:Int->Value}(hN:N.Nodup)(hw:∀ x∈N,(Lit.int .i64 x).wf=true)(hh:∀ x,Maps.has D (.int .i64 x)=decide (x∈N))(hg:∀ x∈N,∃ d,hdr (g x)=some (d,[])/\∀ z,D.atKey (.int .i64 x) z=d):Mp w b N g:=by
 obtain⟨_,e⟩:=Zjw h hN hh;have h':=owns_tight h;rw[e] at h';exact⟨D,h',hN,hw,hh,hg⟩
section
variable {w:World}{b:Nat}{N:List Int}{g:Int->Value}
theorem Mp.lt(h:Mp w b N g):b<w.heap.size:=by
 obtain⟨D,h,_⟩:=h;exact h.lt
theorem Mp.keep{w':World}(h:Mp w b N g)(hk:w'.heap[b]? =w.heap[b]?):Mp w' b N g:=by
 obtain⟨D,⟨es,clock,hb,r⟩,r'⟩:=h;exact⟨D,⟨es,clock,hk.trans hb,r⟩,r'⟩
theorem Mp.not_cells(h:Mp w b N g){k:Nat}{cs:Array Value}{T:TypeId}{z:Nat × Nat}(hk:w.heap[k]? =some (.cells cs T z)):b≠k:=fun e=>by
 obtain⟨D,⟨es,clock,hb,_⟩,_⟩:=h;rw[e,hk] at hb;cases hb
theorem Mp.nodup(h:Mp w b N g):N.Nodup:=by obtain⟨_,_,h,_⟩:=h;exact h
theorem Mp.wf(h:Mp w b N g):∀ x∈N,(Lit.int .i64 x).wf=true:=by obtain⟨_,_,_,h,_⟩:=h;exact h
theorem Mp.made(w:World)(g:Int->Value):Mp (w.alloc (.map #[] 0)) w.heap.size [] g:=
 ⟨.map [],World.ownsMap_made w _ _ _,List.nodup_nil,fun x hx=>absurd hx List.not_mem_nil,fun x=>rfl,fun x hx=>absurd hx List.not_mem_nil⟩
theorem Mp.len(h:Mp w b N g)(ty:TypeId):(Builtin.len_ #[90] ty #[.map (some b)]).run Tryz.prog w=.ok (.int .i64 N.length) w:=by
 obtain⟨D,h1,h2,h3,h4,h5⟩:=h;rw[h1.len Tryz.underlying90 ty,(Zjw h1 h2 h4).2]
theorem Mp.look_ok(h:Mp w b N g){x:Int}(hx:(Lit.int .i64 x).wf=true):(Instr.lookup 90 (.map (some b)) (.int .i64 x) true).run Tryz.prog w=.ok (.tuple #[if x∈N then g x else .slice none 0 0,.bool (decide (x∈N))]) w:=by
 obtain⟨D,⟨es,clock,hb,F,hs,rfl⟩,h2,h3,h4,h5⟩:=h;rcases Maps.fit_look true iKeyed Tryz.underlying90 (zeroBys w) hb F (ikey hx) with⟨hrun,hno,hat⟩| ⟨e0,y,he0,hk,hrun,hRv,hat,_⟩
 . have hn:x ∉ N:=fun hin=>by
    obtain⟨d,hd,ha⟩:=h5 x hin;have e1:=(hat .nil).symm.trans (ha .nil);have e2:=(hat (.lit (.bool true))).symm.trans (ha (.lit (.bool true)));rw[<- e1] at e2;cases e2
   rw[if_neg hn,decide_eq_false hn];exact hrun
 . have hn:x∈N:=by
    have:=h4 x;rw[Maps.has_true_of_atKey hat] at this;exact of_decide_eq_true this.symm
   rw[if_pos hn,decide_eq_true hn];obtain⟨d,hd,ha⟩:=h5 x hn;have e1:y.1=d:=(hat .nil).symm.trans (ha .nil);have:e0.val=g x:=hdr_inj (ps:=y.2) (by rw[hRv,<- e1]) hd;rw[<- this];exact hrun
theorem Mp.look(h:Mp w b N g){x:Int}(hx:x∈N):(Instr.lookup 90 (.map (some b)) (.int .i64 x) false).run Tryz.prog w=.ok (g x) w:=by
 have hw:=h.wf x hx;obtain⟨D,h1,h2,h3,h4,h5⟩:=h;obtain⟨v,ps,hrun,hv⟩:=h1.lookup iKeyed Tryz.underlying90 (zeroBys w) hdr_nil (ikey hw);obtain⟨d,hd,ha⟩:=h5 x hx;rw[ha] at hv;rw[hdr_inj hd hv];exact hrun
theorem Mp.store(h:Mp w b N g){x:Int}(hx:(Lit.int .i64 x).wf=true){v:Value}{d:DataW Unit}(hv:hdr v=some (d,[]))(hN:N.length<1000000):
 ∃ w',(Instr.mapUpdate 90 (.map (some b)) (.int .i64 x) v).run Tryz.prog w=.ok () w'/\Mp w' b (addS N x) (fun y=>if y=x then v else g y)/\w.grownBy w' (some b)/\w'.heap.size=w.heap.size:=by
 obtain⟨D,h1,h2,h3,h4,h5⟩:=h;have hlt:N.length<maxLen:=by simp only[maxLen];omega
 have hm:=h1.isMap;have hkl:WideAt.IsKeyLit (.int .i64 x):=iKeyed.key (ikey hx);obtain⟨w',hrun,h6,hg,ht⟩:∃ w',(Instr.mapUpdate 90 (.map (some b)) (.int .i64 x) v).run Tryz.prog w=.ok () w'/\w'.ownsMap Tryz.prog 3 hdr b (N.length+1) (D.put (.int .i64 x) d)/\w.grownBy w' (some b)/\w'.heap.size=w.heap.size:=by
  obtain⟨w',hrun,h6,h7⟩:=h1.store iKeyed Tryz.underlying90 hlt (ikey hx) hv;exact⟨w',hrun,h6,h7.grown,by obtain⟨_,_,_,_,_,rfl⟩:=h7;simp[ChangeMaps.setBlock]⟩
 refine⟨w',hrun,owns_mp h6 ?_ ?_ ?_ ?_,hg,ht⟩
 . unfold addS
   split
   . exact h2
   . rename_i hn
     exact List.nodup_append.2 ⟨h2,by simp,fun a ha c hc e=>hn (by simp at hc;rw[<- hc,<- e];exact ha)⟩
 . intro y hy
   unfold addS at hy;split at hy
   . exact h3 y hy
   . rcases List.mem_append.1 hy with hy|hy
     . exact h3 y hy
     . simp at hy;subst hy;exact hx
 . intro y
   have hmem:y∈addS N x ↔ y∈N\/y=x:=by
    unfold addS;split
    . exact⟨.inl,fun h=>h.elim id fun e=>by rw[e];assumption⟩
    . simp
   by_cases e:y=x
   . subst e
     rw[Maps.has_put_same hm hkl,decide_eq_true (hmem.2 (.inr rfl))]
   . rw[Maps.has_put_other (fun e'=>e (by cases e';rfl)),h4 y]
     exact decide_eq_decide.2 ⟨fun h=>hmem.2 (.inl h),fun h=>(hmem.1 h).resolve_right e⟩
 . intro y hy
   by_cases e:y=x
   . subst e
     exact⟨d,by rw[if_pos rfl];exact hv,fun z=>Maps.atKey_put_same hm hkl d z⟩
   . have hy':y∈N:=by
      unfold addS at hy;split at hy
      . exact hy
      . exact(List.mem_append.1 hy).resolve_right fun h=>e (by simpa using h)
     obtain⟨d',hd',ha'⟩:=h5 y hy';exact⟨d',by rw[if_neg e];exact hd',fun z=>by rw[Maps.atKey_put_other (fun e'=>e (by cases e';rfl))];exact ha' z⟩
end
end Go.Proofs.YtedabomlfcghoaaGreat
namespace Go.Proofs.YtedabomlfcghoaaGreat
open Go.RowKit Go.Shelf
def copyM_ren:Go.Shelf.Ren:=⟨fun|5=>74|n=>n,fun|23=>90|24=>90|26=>3|27=>30|0=>0|4=>4|n=>n,fun|n=>n⟩
theorem copyM:Go.Proofs.SlLaysX.n5 Tryz.prog copyM_ren:={
 mixed:=by kernel_rfl,
 f5:=⟨Tryz.f74.name,by decide,Tryz.func74.trans (congrArg some (by kernel_rfl))⟩,
 t0:=Tryz.underlying0,
 a0:=Tryz.isAgg0,
 z0:=Tryz.sizeOf0,
 v0:=Tryz.zeroValue0,
 t4:=Tryz.underlying4,
 a4:=Tryz.isAgg4,
 z4:=Tryz.sizeOf4,
 v4:=Tryz.zeroValue4,
 t23:=Tryz.underlying90,
 a23:=Tryz.isAgg90,
 z23:=Tryz.sizeOf90,
 v23:=Tryz.zeroValue90,
 t24:=Tryz.underlying90,
 a24:=Tryz.isAgg90,
 z24:=Tryz.sizeOf90,
 v24:=Tryz.zeroValue90,
 a26:=Tryz.isAgg3,
 z26:=Tryz.sizeOf3,
 a27:=Tryz.isAgg30,
 z27:=Tryz.sizeOf30 }
def keysM_ren:Go.Shelf.Ren:=⟨fun|7=>160|10=>196|n=>n,fun|23=>90|26=>3|3=>30|28=>228|0=>0|27=>227|33=>103|4=>4|n=>n,fun|n=>n⟩
theorem keysM:Go.Proofs.SlLaysZI.n7 Tryz.prog keysM_ren:={
 mixed:=by kernel_rfl,
 f7:=⟨Tryz.f160.name,by decide,Tryz.func160.trans (congrArg some (by kernel_rfl))⟩,
 f10:=⟨Tryz.f196.name,by decide,Tryz.func196.trans (congrArg some (by kernel_rfl))⟩,
 t0:=Tryz.underlying0,
 a0:=Tryz.isAgg0,
 z0:=Tryz.sizeOf0,
 v0:=Tryz.zeroValue0,
 t4:=Tryz.underlying4,
 a4:=Tryz.isAgg4,
 z4:=Tryz.sizeOf4,
 v4:=Tryz.zeroValue4,
 t23:=Tryz.underlying90,
 a23:=Tryz.isAgg90,
 z23:=Tryz.sizeOf90,
 v23:=Tryz.zeroValue90,
 t26:=Tryz.underlying3,
 a26:=Tryz.isAgg3,
 z26:=Tryz.sizeOf3,
 v26:=Tryz.zeroValue3,
 t27:=Tryz.underlying227,
 a27:=Tryz.isAgg227,
 z27:=Tryz.sizeOf227,
 v27:=Tryz.zeroValue227,
 t28:=Tryz.underlying228,
 a28:=Tryz.isAgg228,
 z28:=Tryz.sizeOf228,
 v28:=Tryz.zeroValue228,
 t33:=Tryz.underlying103,
 a33:=Tryz.isAgg103,
 z33:=Tryz.sizeOf103,
 v33:=Tryz.zeroValue103 }
def sortedM_ren:Go.Shelf.Ren:=⟨fun|6=>159|8=>194|9=>195|11=>208|13=>210|12=>209|23=>224|24=>225|14=>215|15=>216|16=>217|17=>218|18=>219|19=>220|20=>221|21=>222|22=>223|25=>228|26=>229|27=>230|28=>231|29=>232|30=>233|31=>235|n=>n,fun|26=>3|28=>228|24=>176|0=>0|3=>3|37=>56|48=>88|50=>188|4=>4|40=>276|39=>275|45=>203|5=>5|9=>9|51=>284|55=>243|57=>289|58=>114|33=>103|n=>n,fun|n=>n⟩
theorem sortedM:Go.Proofs.SlLaysZI.n6 Tryz.prog sortedM_ren:={
 mixed:=by kernel_rfl,
 f6:=⟨Tryz.f159.name,by decide,Tryz.func159.trans (congrArg some (by kernel_rfl))⟩,
 f8:=⟨Tryz.f194.name,by decide,Tryz.func194.trans (congrArg some (by kernel_rfl))⟩,
 f11:=⟨Tryz.f208.name,by decide,Tryz.func208.trans (congrArg some (by kernel_rfl))⟩,
 t0:=Tryz.underlying0,
 a0:=Tryz.isAgg0,
 z0:=Tryz.sizeOf0,
 v0:=Tryz.zeroValue0,
 t24:=Tryz.underlying176,
 a24:=Tryz.isAgg176,
 z24:=Tryz.sizeOf176,
 v24:=Tryz.zeroValue176,
 t26:=Tryz.underlying3,
 a26:=Tryz.isAgg3,
 z26:=Tryz.sizeOf3,
 v26:=Tryz.zeroValue3,
 t28:=Tryz.underlying228,
 a28:=Tryz.isAgg228,
 z28:=Tryz.sizeOf228,
 v28:=Tryz.zeroValue228,
 i26:=by kernel_rfl }
def sortM_ren:Go.Shelf.Ren:=⟨fun|5=>195|8=>210|7=>209|19=>224|20=>225|10=>215|11=>216|12=>217|13=>218|14=>219|15=>220|16=>221|17=>222|18=>223|30=>228|31=>229|32=>230|33=>231|34=>232|35=>233|40=>235|n=>n,fun|23=>176|25=>3|3=>3|32=>56|22=>176|0=>0|44=>88|46=>188|4=>4|36=>276|35=>275|41=>203|5=>5|9=>9|53=>284|57=>243|63=>289|64=>114|n=>n,fun|n=>n⟩
theorem sortM:Go.Proofs.SlLaysM.n5 Tryz.prog sortM_ren:={
 mixed:=by kernel_rfl,
 f5:=⟨Tryz.f195.name,by decide,Tryz.func195.trans (congrArg some (by kernel_rfl))⟩,
 f7:=⟨Tryz.f209.name,by decide,Tryz.func209.trans (congrArg some (by kernel_rfl))⟩,
 f8:=Tryz.func210.trans (congrArg some (by kernel_rfl)),
 f10:=⟨Tryz.f215.name,by decide,Tryz.func215.trans (congrArg some (by kernel_rfl))⟩,
 f11:=⟨Tryz.f216.name,by decide,Tryz.func216.trans (congrArg some (by kernel_rfl))⟩,
 f12:=⟨Tryz.f217.name,by decide,Tryz.func217.trans (congrArg some (by kernel_rfl))⟩,
 f13:=⟨Tryz.f218.name,by decide,Tryz.func218.trans (congrArg some (by kernel_rfl))⟩,
 f14:=⟨Tryz.f219.name,by decide,Tryz.func219.trans (congrArg some (by kernel_rfl))⟩,
 f15:=⟨Tryz.f220.name,by decide,Tryz.func220.trans (congrArg some (by kernel_rfl))⟩,
 f16:=⟨Tryz.f221.name,by decide,Tryz.func221.trans (congrArg some (by kernel_rfl))⟩,
 f17:=⟨Tryz.f222.name,by decide,Tryz.func222.trans (congrArg some (by kernel_rfl))⟩,
 f18:=⟨Tryz.f223.name,by decide,Tryz.func223.trans (congrArg some (by kernel_rfl))⟩,
 f19:=Tryz.func224.trans (congrArg some (by kernel_rfl)),
 f20:=Tryz.func225.trans (congrArg some (by kernel_rfl)),
 f30:=⟨Tryz.f228.name,by decide,Tryz.func228.trans (congrArg some (by kernel_rfl))⟩,
 f31:=Tryz.func229.trans (congrArg some (by kernel_rfl)),
 f32:=Tryz.func230.trans (congrArg some (by kernel_rfl)),
 f33:=⟨Tryz.f231.name,by decide,Tryz.func231.trans (congrArg some (by kernel_rfl))⟩,
 f34:=⟨Tryz.f232.name,by decide,Tryz.func232.trans (congrArg some (by kernel_rfl))⟩,
 f35:=⟨Tryz.f233.name,by decide,Tryz.func233.trans (congrArg some (by kernel_rfl))⟩,
 f40:=⟨Tryz.f235.name,by decide,Tryz.func235.trans (congrArg some (by kernel_rfl))⟩,
 t0:=Tryz.underlying0,
 a0:=Tryz.isAgg0,
 z0:=Tryz.sizeOf0,
 v0:=Tryz.zeroValue0,
 t3:=Tryz.underlying3,
 a3:=Tryz.isAgg3,
 z3:=Tryz.sizeOf3,
 v3:=Tryz.zeroValue3,
 t4:=Tryz.underlying4,
 a4:=Tryz.isAgg4,
 z4:=Tryz.sizeOf4,
 v4:=Tryz.zeroValue4,
 t5:=Tryz.underlying5,
 a5:=Tryz.isAgg5,
 z5:=Tryz.sizeOf5,
 v5:=Tryz.zeroValue5,
 t9:=Tryz.underlying9,
 a9:=Tryz.isAgg9,
 z9:=Tryz.sizeOf9,
 v9:=Tryz.zeroValue9,
 t22:=Tryz.underlying176,
 a22:=Tryz.isAgg176,
 z22:=Tryz.sizeOf176,
 v22:=Tryz.zeroValue176,
 t23:=Tryz.underlying176,
 a23:=Tryz.isAgg176,
 z23:=Tryz.sizeOf176,
 v23:=Tryz.zeroValue176,
 t25:=Tryz.underlying3,
 a25:=Tryz.isAgg3,
 z25:=Tryz.sizeOf3,
 v25:=Tryz.zeroValue3,
 t32:=Tryz.underlying56,
 a32:=Tryz.isAgg56,
 z32:=Tryz.sizeOf56,
 v32:=Tryz.zeroValue56,
 t35:=Tryz.underlying275,
 a35:=Tryz.isAgg275,
 z35:=Tryz.sizeOf275,
 v35:=Tryz.zeroValue275,
 t36:=Tryz.underlying276,
 a36:=Tryz.isAgg276,
 z36:=Tryz.sizeOf276,
 v36:=Tryz.zeroValue276,
 t41:=Tryz.underlying203,
 a41:=Tryz.isAgg203,
 z41:=Tryz.sizeOf203,
 v41:=Tryz.zeroValue203,
 t44:=Tryz.underlying88,
 a44:=Tryz.isAgg88,
 z44:=Tryz.sizeOf88,
 v44:=Tryz.zeroValue88,
 t46:=Tryz.underlying188,
 a46:=Tryz.isAgg188,
 z46:=Tryz.sizeOf188,
 v46:=Tryz.zeroValue188,
 t53:=Tryz.underlying284,
 a53:=Tryz.isAgg284,
 z53:=Tryz.sizeOf284,
 v53:=Tryz.zeroValue284,
 t57:=Tryz.underlying243,
 a57:=Tryz.isAgg243,
 z57:=Tryz.sizeOf243,
 v57:=Tryz.zeroValue243,
 t63:=Tryz.underlying289,
 a63:=Tryz.isAgg289,
 z63:=Tryz.sizeOf289,
 v63:=Tryz.zeroValue289,
 t64:=Tryz.underlying114,
 a64:=Tryz.isAgg114,
 z64:=Tryz.sizeOf114,
 v64:=Tryz.zeroValue114 }
end Go.Proofs.YtedabomlfcghoaaGreat
namespace Go.Proofs.YtedabomlfcghoaaGreat
set_option maxRecDepth 100000
open Go.RowKit Go.Maps Go.Shelf
def uniN(N M:List Int):List Int:=N ++ M.filter fun x=>decide (x ∉ N)
theorem mem_uniN{N M:List Int}{x:Int}:x∈uniN N M ↔ x∈N\/x∈M:=by
 unfold uniN;rw[List.mem_append,List.mem_filter,decide_eq_true_eq];by_cases h:x∈N
 . simp[h]
 . simp[h]
theorem uniN_nodup{N M:List Int}(h:N.Nodup)(k:M.Nodup):(uniN N M).Nodup:=by
 refine List.nodup_append.2 ⟨h,k.filter _,fun a ha c hc e=>?_⟩;have:=(List.mem_filter.1 hc).2;rw[decide_eq_true_eq] at this;exact this (e ▸ ha)
def Zak(N:List Int):List Int:=N.mergeSort leI
theorem Zlb(N:List Int):(Zak N).Perm N:=List.mergeSort_perm N leI
theorem Zff(N:List Int):(Zak N).length=N.length:=(Zlb N).length_eq
theorem mem_sortN{N:List Int}{x:Int}:x∈Zak N ↔ x∈N:=(Zlb N).mem_iff
theorem sortN_nodup{N:List Int}(h:N.Nodup):(Zak N).Nodup:=(Zlb N).nodup_iff.2 h
theorem mCopy_of{w:World}{bd bs:Nat}{N M:List Int}{g h:Int->Value}(hd:Mp w bd N g)(hs:Mp w bs M h)(hne:bd≠bs)(hroom:N.length+M.length<=1000000):
 Calls Tryz.prog 74 #[.map (some bd),.map (some bs)] w fun e w'=>e=.returned (.tuple #[])/\Mp w' bd (uniN N M) (fun x=>if x∈M then h x else g x)/\Mp w' bs M h/\w.grownBy w' (some bd):=by
 obtain⟨Dd,d1,d2,d3,d4,d5⟩:=hd;obtain⟨Ds,s1,s2,s3,s4,s5⟩:=hs;have hsz:=(Zjw s1 s2 s4).2;have hcon:=AnyX.maps_Copy copyM iKeyed hdr bd bs N.length M.length Dd Ds w d1 s1 hne (by rw[hsz];simp only[maxLen];omega);change Calls Tryz.prog 74 _ _ _ at hcon;refine hcon.mono ?_;rintro e w' ⟨he,h1,h2,h3⟩;refine⟨he,?_,⟨Ds,h2,s2,s3,s4,s5⟩,h3⟩;obtain⟨es,rfl,hp,hk⟩:=s1.entries iKeyed;have hm:=d1.isMap;have hhas:∀ k,Maps.has (Lib.mergeD Dd (.map es)) k=(Maps.has Dd k || Maps.has (.map es) k):=fun k=>Maps.has_foldPut k es Dd hm hk
 refine owns_mp h1 (uniN_nodup d2 s2) ?_ ?_ ?_
 . intro x hx
   exact(mem_uniN.1 hx).elim (d3 x) (s3 x)
 . intro x
   rw[hhas,d4 x,s4 x];by_cases ha:x∈N
   . rw[decide_eq_true ha,decide_eq_true (mem_uniN.2 (.inl ha))];rfl
   . by_cases hb:x∈M
     . rw[decide_eq_true hb,decide_eq_true (mem_uniN.2 (.inr hb)),Bool.or_true]
     . rw[decide_eq_false ha,decide_eq_false hb,decide_eq_false (fun e=>(mem_uniN.1 e).elim ha hb)];rfl
 . intro x hx
   by_cases hb:x∈M
   . obtain⟨d,hd,ha⟩:=s5 x hb
     refine⟨d,by rw[if_pos hb];exact hd,fun z=>?_⟩;have hat:=Maps.atKey_foldPut (.int .i64 x) z es Dd hm hk hp;have h0:(DataW.map es).atKey (.int .i64 x) z=d:=ha z;show(es.foldl (fun D p=>D.put p.1 p.2) Dd).atKey (.int .i64 x) z=d
     cases hf:es.find? (fun p=>p.1.sameKey (.int .i64 x)) with
     |none=>
      have hh:=s4 x;rw[decide_eq_true hb,Maps.has_eq,List.any_eq_true] at hh;obtain⟨p,hp1,hp2⟩:=hh;have:=List.find?_eq_none.1 hf p hp1;rw[hp2] at this;exact absurd rfl this
     |some p=>
      rw[hf] at hat;simp only[DataW.atKey,hf] at h0;rw[hat];exact h0
   . have ha:=(mem_uniN.1 hx).resolve_right hb
     obtain⟨d,hd,hz⟩:=d5 x ha;refine⟨d,by rw[if_neg hb];exact hd,fun z=>?_⟩;have hat:=Maps.atKey_foldPut (.int .i64 x) z es Dd hm hk hp;show(es.foldl (fun D p=>D.put p.1 p.2) Dd).atKey (.int .i64 x) z=d
     have hf:es.find? (fun p=>p.1.sameKey (.int .i64 x))=none:=List.find?_eq_none.2 fun p hp1 hp2=>by
      have hh:=s4 x;rw[decide_eq_false hb,Maps.has_eq] at hh;have:=List.any_eq_false.1 hh p hp1;exact this hp2
     rw[hf] at hat;rw[hat];exact hz z
theorem mKeys_of(b:Nat)(w:World):Calls Tryz.prog 160 #[.map (some b)] w fun e w'=>e=.returned (.func (.func 196) #[] #[.pointer (some ⟨w.heap.size,0,none⟩)])/\w'=w.alloc (.cells #[.map (some b)] 90):=by
 have h:=(callsIn_wide (n:=5)).1 (AnyZI.keys_in keysM Fence.wide 5 trivial rfl (some b) w);exact h
theorem sortsM(m:Nat):AnyZI.SortsIn Tryz.prog sortedM_ren Fence.wide m:=
 ⟨fun blk off cap ss W hH hblk hsz=>callsIn_wide.2 (AnyM.slices_Sort_int sortM blk off cap ss W hH hblk hsz),
  fun p cap W=>callsIn_wide.2 (AnyM.slices_Sort_int_none sortM p cap W)⟩
theorem slSorted_of{w:World}{b p:Nat}{N:List Int}{g:Int->Value}(h:Mp w b N g)(hp:w.heap[p]? =some (.cells #[.map (some b)] 90 (0,0)))(hN:N.length<=1000000):
 Calls Tryz.prog 159 #[.func (.func 196) #[] #[.pointer (some ⟨p,0,none⟩)]] w fun e w'=>∃ v,e=.returned v/\IR w' w.heap.size v (Zak N)/\Below w.heap.size w w':=by
 obtain⟨D,d1,d2,d3,d4,d5⟩:=h;obtain⟨hperm,hsz⟩:=Zjw d1 d2 d4;have hpl:p<w.heap.size:=(Array.getElem?_eq_some_iff.1 hp).1;have hc:w.cell? ⟨p,0,none⟩=some (.map (some b)):=by rw[cell_of_row _ _ _ _ _ _ hp];rfl
 have hseq:SeqGives Fence.wide 2 Tryz.prog 196 #[.pointer (some ⟨p,0,none⟩)] encZ (fun ss=>ss.Perm (intKeys D)) (Maps.size D) w:=
  AnyZI.keys_gives (ρ:=keysM_ren) { keysM with } Fence.wide _ trivial rfl (by omega) p b N.length D w hpl hc d1
 have cS:=AnyZI.sorted_in sortedM Fence.wide 5 trivial trivial trivial trivial rfl (by omega) (sortsM _) (enters_of Tryz.func195 (by kernel_rfl) rfl) 196 #[.pointer (some ⟨p,0,none⟩)] trivial (enters_of Tryz.func196 (by kernel_rfl) rfl) _ _ (by rw[hsz];simp only[maxLen];omega) (by rw[hsz];omega) w hseq;change CallsIn _ _ Tryz.prog 159 _ _ _ at cS;refine(callsIn_wide.1 cS).mono ?_;rintro e w' ⟨v,ss,he,hS,hrow,hnil,hb⟩;have e1:ss.mergeSort (fun x y=>decide (x<=y))=Zak N:=mergeSort_of_perm_i (hS.trans hperm.symm);have e2:ss.length=(Zak N).length:=by rw[Zff,hS.length_eq,hperm.length_eq]
 rw[e1,e2] at hrow;refine⟨v,he,?_,hb⟩;exact hrow
end Go.Proofs.YtedabomlfcghoaaGreat
namespace Go.Proofs.YtedabomlfcghoaaGreat
set_option maxRecDepth 100000
open Go.RowKit
structure Ext (P:Nat->Prop) (w w':World):Prop where
 os:w'.os=w.os
 tape:w'.tape=w.tape
 output:w'.output=w.output
 size:w.heap.size<=w'.heap.size
 keep:∀ k,k<w.heap.size->¬ P k->w'.heap[k]? =w.heap[k]?
def grP(P:Nat->Prop)(w w':World)(k:Nat):Prop:=P k\/(w.heap.size<=k/\k<w'.heap.size)
theorem Ext.trans{P P2:Nat->Prop}{a b c:World}(h:Ext P a b)(k:Ext P2 b c)(hp:∀ x,x<a.heap.size->P2 x->P x):Ext P a c:=
 ⟨k.os.trans h.os,k.tape.trans h.tape,k.output.trans h.output,Nat.le_trans h.size k.size,fun i hi hn=>(k.keep i (Nat.lt_of_lt_of_le hi h.size) fun e=>hn (hp i hi e)).trans (h.keep i hi hn)⟩
theorem Ext.of_below{P:Nat->Prop}{w w':World}(h:Below w.heap.size w w'):Ext P w w':=⟨h.os,h.tape,h.output,h.size,fun k hk _=>h.block k hk⟩
theorem Ext.of_chg{P Q Q':Nat->Prop}{w w':World}(h:Chg Q Q' w w')(hp:∀ x,Q x->P x):Ext P w w':=⟨h.os,h.tape,h.output,h.size,fun k hk hn=>(h.keep k hk fun e=>hn (hp k e)).1⟩
theorem Ext.of_grown{P:Nat->Prop}{w w':World}{b:Nat}(h:w.grownBy w' (some b))(hp:P b):Ext P w w':=⟨h.os,h.tape,h.output,h.size,fun k hk hn=>h.block k hk fun e=>hn (by cases e;exact hp)⟩
theorem Ext.of_wrote{P:Nat->Prop}{w w':World}{b:Nat}(h:Wrote w w' b)(hp:P b):Ext P w w':=⟨h.1,h.2.1,h.2.2.1,Nat.le_of_eq h.2.2.2.1.symm,fun k _ hn=>h.2.2.2.2 k fun e=>hn (e ▸ hp)⟩
theorem Ext.chg{P:Nat->Prop}{w w':World}(h:Ext P w w'):Chg P (grP P w w') w w':=⟨h.os,h.tape,h.output,h.size,fun k hk hn=>⟨h.keep k hk hn,fun e=>e.elim hn fun e=>absurd e.1 (by omega)⟩⟩
theorem Ext.sub{P Q:Nat->Prop}{w w':World}(h:Ext P w w')(hp:∀ x,P x->Q x):Ext Q w w':=⟨h.os,h.tape,h.output,h.size,fun k hk hn=>h.keep k hk fun e=>hn (hp k e)⟩
theorem chg_new{P P':Nat->Prop}{w w':World}(h:Chg P P' w w'){k:Nat}(hk:P' k):P k\/w.heap.size<=k:=by
 by_cases hl:k<w.heap.size
 . by_cases hp:P k
   . exact .inl hp
   . exact absurd hk (h.keep k hl hp).2
 . exact .inr (by omega)
theorem Dk.same{w w':World}{P:Nat->Prop}{p:Value}{s:DS}(h:Dk w P p s)(hk:∀ k,P k->w'.heap[k]? =w.heap[k]?):Dk w' P p s:=by
 obtain⟨bp,bf,bv,u,hp,hd,hl,hP⟩:=h;refine⟨bp,bf,bv,u,hp,{ hd with hp:=?_,hf:=?_,hv:=?_,hu:=Zcx hd.hu fun g hg=>hk g ((hP g).2 (.inr (.inr (.inr hg)))) },hl,hP⟩
 . rw[hk _ ((hP _).2 (.inl rfl))];exact hd.hp
 . rw[hk _ ((hP _).2 (.inr (.inl rfl)))];exact hd.hf
 . rw[hk _ ((hP _).2 (.inr (.inr (.inl rfl))))];exact hd.hv
def Blo(w:World)(v:Value)(l:List Int):Prop:=OB w 0 v l/\l.length=256
theorem Blo.row{w:World}{v:Value}{l:List Int}(h:Blo w v l):∃ g cap cur,v=.slice (some ⟨g,0,none⟩) 256 cap/\w.heap[g]? =some (.cells cur 5 (0,0)):=by
 rcases h.1.2.2 with⟨_,h0⟩| ⟨g,cap,cur,hv,_,hh,_⟩
 . rw[h.2] at h0;cases h0
 . exact⟨g,cap,cur,by rw[hv,h.2],hh⟩
theorem Blo.hdr{w:World}{v:Value}{l:List Int}(h:Blo w v l):∃ d,hdr v=some (d,[]):=by
 obtain⟨g,cap,cur,rfl,_⟩:=h.row;exact⟨_,hdr_some g 0 256 cap⟩
theorem Blo.keep{w w':World}{v:Value}{l:List Int}(h:Blo w v l)(hk:∀ g,v.ownBlock=some g->w'.heap[g]? =w.heap[g]?):Blo w' v l:=⟨⟨h.1.1,Zcx h.1.2 hk⟩,h.2⟩
theorem Blo.lt{w:World}{v:Value}{l:List Int}(h:Blo w v l){g:Nat}(hg:v.ownBlock=some g):g<w.heap.size:=(World.ownsRow.lt h.1.2 g hg).2
theorem Blo.at{w:World}{v:Value}{l:List Int}(h:Blo w v l){g:Nat}(hg:v.ownBlock=some g):∃ cur,w.heap[g]? =some (.cells cur 5 (0,0)):=by
 obtain⟨g',cap,cur,rfl,hh⟩:=h.row;obtain rfl:g'=g:=by simpa [Value.ownBlock] using hg
 exact⟨cur,hh⟩
def SOwn(Pd:Nat->Prop)(b be bp:Nat)(ek:List Int)(eg:Int->Value)(pk:List Int)(pg:Int->Value)(k:Nat):Prop:=
 Pd k\/k=b\/k=be\/k=bp\/(∃ x,x∈ek/\(eg x).ownBlock=some k)\/∃ x,x∈pk/\(pg x).ownBlock=some k
structure SMem (w:World) (Pd:Nat->Prop) (b be bp:Nat) (d:Value) (q:Int) (ek:List Int) (eg:Int->Value) (ev:Int->List Int) (pk:List Int) (pg:Int->Value) (pv:Int->List Int) (wi:Bool) (ds:DS):Prop where
 hb:w.heap[b]? =some (.cells #[d,.int .u32 q,.map (some be),.map (some bp),.bool wi,.bool false] 92 (0,0))
 dk:Dk w Pd d ds
 q0:0<=q/\q<4294967296
 me:Mp w be ek eg
 mp:Mp w bp pk pg
 ne:be≠bp
 re:∀ x∈ek,Blo w (eg x) (ev x)
 rp:∀ x∈pk,Blo w (pg x) (pv x)
def inK(n:Nat)(x:Int):Prop:=0<=x/\x<n/\OutJ x.toNat
structure SPl (X:XSt) (ek:List Int) (ev:Int->List Int) (pk:List Int) (pv:Int->List Int):Prop where
 ok:XOk X
 n64:64<=X.is.length/\X.is.length<=768
 u0:X.ds.U=[]
 ki:∀ x∈ek,inK X.is.length x
 kp:∀ x∈pk,inK X.is.length x
 el:ek.length<=37
 pl:pk.length<=37
 dt:X.dt=ek.length
 isx:∀ i,OutJ i->i<X.is.length->X.is.getD i []=if (i:Int)∈ek then ev i else X.base.getD i []
 wi0:X.wi=false->pk=[]
 wi1:X.wi=true->X.put=pk/\X.call.length=X.is.length/\∀ i,OutJ i->i<X.is.length->X.call.getD i []=if (i:Int)∈pk then pv i else X.is.getD i []
def SInv(w:World)(P:Nat->Prop)(d p:Value)(X:XSt):Prop:=
 ∃ b be bp Pd q ek eg ev pk pg pv,p=.pointer (some ⟨b,0,none⟩)/\SMem w Pd b be bp d q ek eg ev pk pg pv X.wi X.ds/\SPl X ek ev pk pv/\(∀ k,SOwn Pd b be bp ek eg pk pg k->P k)/\∀ k,P k->k<w.heap.size
def SDead(w:World)(P:Nat->Prop)(d p:Value)(ds:DS):Prop:=
 ∃ b Pd,p=.pointer (some ⟨b,0,none⟩)/\w.heap[b]? =some (.cells #[.pointer none,.int .u32 0,.map none,.map none,.bool false,.bool true] 92 (0,0))/\Dk w Pd d ds/\(∀ k,Pd k\/k=b->P k)/\∀ k,P k->k<w.heap.size
section
variable {w:World}{Pd:Nat->Prop}{b be bp:Nat}{d:Value}{q:Int}{ek:List Int}{eg:Int->Value}{ev:Int->List Int}{pk:List Int}{pg:Int->Value}{pv:Int->List Int}{wi:Bool}{ds:DS}
theorem SMem.bl(h:SMem w Pd b be bp d q ek eg ev pk pg pv wi ds):b<w.heap.size:=(Array.getElem?_eq_some_iff.1 h.hb).1
theorem SMem.lt(h:SMem w Pd b be bp d q ek eg ev pk pg pv wi ds)(k:Nat)(hk:SOwn Pd b be bp ek eg pk pg k):k<w.heap.size:=by
 rcases hk with hk|rfl|rfl|rfl| ⟨x,hx,hg⟩| ⟨x,hx,hg⟩
 . exact h.dk.lt k hk
 . exact h.bl
 . exact h.me.lt
 . exact h.mp.lt
 . exact(h.re x hx).lt hg
 . exact(h.rp x hx).lt hg
theorem SMem.same(h:SMem w Pd b be bp d q ek eg ev pk pg pv wi ds){w':World}(hk:∀ k,SOwn Pd b be bp ek eg pk pg k->w'.heap[k]? =w.heap[k]?):SMem w' Pd b be bp d q ek eg ev pk pg pv wi ds:=
 ⟨by rw[hk b (.inr (.inl rfl))];exact h.hb,h.dk.same fun k hp=>hk k (.inl hp),h.q0,h.me.keep (hk be (.inr (.inr (.inl rfl)))),h.mp.keep (hk bp (.inr (.inr (.inr (.inl rfl))))),h.ne,
   fun x hx=>(h.re x hx).keep fun g hg=>hk g (.inr (.inr (.inr (.inr (.inl ⟨x,hx,hg⟩))))),fun x hx=>(h.rp x hx).keep fun g hg=>hk g (.inr (.inr (.inr (.inr (.inr ⟨x,hx,hg⟩)))))⟩
theorem SMem.below(h:SMem w Pd b be bp d q ek eg ev pk pg pv wi ds){w':World}(hb:Below w.heap.size w w'):SMem w' Pd b be bp d q ek eg ev pk pg pv wi ds:=h.same fun k hk=>hb.block k (h.lt k hk)
theorem SMem.ci(h:SMem w Pd b be bp d q ek eg ev pk pg pv wi ds)(i:Nat):w.cell? ⟨b,i,none⟩=(#[d,.int .u32 q,.map (some be),.map (some bp),.bool wi,.bool false]:Array Value)[i]? :=cell_of_row _ _ _ _ _ _ h.hb
theorem SMem.fr(h:SMem w Pd b be bp d q ek eg ev pk pg pv wi ds)(i:Nat):w.frozen? ⟨b,i,none⟩=false:=by simp[World.frozen?,h.hb]
theorem SMem.c0(h:SMem w Pd b be bp d q ek eg ev pk pg pv wi ds):w.cell? ⟨b,0,none⟩=some d:=h.ci 0
theorem SMem.c1(h:SMem w Pd b be bp d q ek eg ev pk pg pv wi ds):w.cell? ⟨b,1,none⟩=some (.int .u32 q):=h.ci 1
theorem SMem.c2(h:SMem w Pd b be bp d q ek eg ev pk pg pv wi ds):w.cell? ⟨b,2,none⟩=some (.map (some be)):=h.ci 2
theorem SMem.c3(h:SMem w Pd b be bp d q ek eg ev pk pg pv wi ds):w.cell? ⟨b,3,none⟩=some (.map (some bp)):=h.ci 3
theorem SMem.c4(h:SMem w Pd b be bp d q ek eg ev pk pg pv wi ds):w.cell? ⟨b,4,none⟩=some (.bool wi):=h.ci 4
theorem SMem.c5(h:SMem w Pd b be bp d q ek eg ev pk pg pv wi ds):w.cell? ⟨b,5,none⟩=some (.bool false):=h.ci 5
theorem SMem.nd(h:SMem w Pd b be bp d q ek eg ev pk pg pv wi ds):¬ Pd b:=h.dk.not h.hb (by decide) (by decide) (by decide)
theorem dk_not_map{P:Nat->Prop}{p:Value}{s:DS}(h:Dk w P p s){k:Nat}{es:Array MapEntry}{cl:Nat}(hk:w.heap[k]? =some (.map es cl)):¬ P k:=fun hp=>by
 obtain⟨_,_,he,_⟩:=h.types k hp;rw[hk] at he;cases he
theorem Mp.nd{P:Nat->Prop}{p:Value}{s:DS}{m:Nat}{N:List Int}{g:Int->Value}(h:Dk w P p s)(hm:Mp w m N g):¬ P m:=by
 obtain⟨_,⟨es,cl,hh,_⟩,_⟩:=hm;exact dk_not_map h hh
theorem SMem.nb(h:SMem w Pd b be bp d q ek eg ev pk pg pv wi ds):be≠b/\bp≠b:=⟨h.me.not_cells h.hb,h.mp.not_cells h.hb⟩
theorem Blo.ne{v:Value}{l:List Int}(hv:Blo w v l){g:Nat}(hg:v.ownBlock=some g){k:Nat}{cs:Array Value}{T:TypeId}{z:Nat × Nat}(hk:w.heap[k]? =some (.cells cs T z))(hT:T≠5):g≠k:=fun e=>by
 obtain⟨cur,hh⟩:=hv.at hg;rw[e,hk] at hh
 injection hh with hh
 injection hh with _ e2
 exact hT e2
theorem Blo.nm{v:Value}{l:List Int}(hv:Blo w v l){g:Nat}(hg:v.ownBlock=some g){m:Nat}{N:List Int}{gg:Int->Value}(hm:Mp w m N gg):g≠m:=fun e=>by
 obtain⟨cur,hh⟩:=hv.at hg;exact hm.not_cells hh e.symm
theorem Blo.nd{v:Value}{l:List Int}(hv:Blo w v l){g:Nat}(hg:v.ownBlock=some g){P:Nat->Prop}{p:Value}{s:DS}(h:Dk w P p s):¬ P g:=by
 obtain⟨cur,hh⟩:=hv.at hg;exact h.not hh (by decide) (by decide) (by decide)
theorem SMem.disk(h:SMem w Pd b be bp d q ek eg ev pk pg pv wi ds){w':World}{Pd':Nat->Prop}{ds':DS}(hd:Dk w' Pd' d ds')(hc:Chg Pd Pd' w w'):SMem w' Pd' b be bp d q ek eg ev pk pg pv wi ds':=
 ⟨by rw[(hc.keep b h.bl h.nd).1];exact h.hb,hd,h.q0,h.me.keep (hc.keep be h.me.lt (Mp.nd h.dk h.me)).1,h.mp.keep (hc.keep bp h.mp.lt (Mp.nd h.dk h.mp)).1,h.ne,
   fun x hx=>(h.re x hx).keep fun g hg=>(hc.keep g ((h.re x hx).lt hg) ((h.re x hx).nd hg h.dk)).1,fun x hx=>(h.rp x hx).keep fun g hg=>(hc.keep g ((h.rp x hx).lt hg) ((h.rp x hx).nd hg h.dk)).1⟩
end
theorem SInv.keep{w w':World}{P:Nat->Prop}{d p:Value}{X:XSt}(h:SInv w P d p X)(hs:w.heap.size<=w'.heap.size)(hk:∀ k,P k->w'.heap[k]? =w.heap[k]?):SInv w' P d p X:=by
 obtain⟨b,be,bp,Pd,q,ek,eg,ev,pk,pg,pv,hp,hm,hpl,ho,hl⟩:=h;exact⟨b,be,bp,Pd,q,ek,eg,ev,pk,pg,pv,hp,hm.same fun k h=>hk k (ho k h),hpl,ho,fun k h=>Nat.lt_of_lt_of_le (hl k h) hs⟩
theorem SDead.keep{w w':World}{P:Nat->Prop}{d p:Value}{ds:DS}(h:SDead w P d p ds)(hs:w.heap.size<=w'.heap.size)(hk:∀ k,P k->w'.heap[k]? =w.heap[k]?):SDead w' P d p ds:=by
 obtain⟨b,Pd,hp,hb,hd,ho,hl⟩:=h;exact⟨b,Pd,hp,by rw[hk b (ho b (.inr rfl))];exact hb,hd.same fun k h=>hk k (ho k (.inl h)),ho,fun k h=>Nat.lt_of_lt_of_le (hl k h) hs⟩
end Go.Proofs.YtedabomlfcghoaaGreat
