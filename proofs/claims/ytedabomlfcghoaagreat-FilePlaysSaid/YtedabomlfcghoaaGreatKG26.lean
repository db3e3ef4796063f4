/- What the law rests on: part 26. -/
import Derived.Lib.Bytealg
import Derived.Lib.AppendStr
import Derived.Test.YtedabomlfcghoaaGreatKG25
set_option linter.unusedVariables false
namespace Go.Proofs.YtedabomlfcghoaaGreat
set_option maxRecDepth 100000
open Go.RowKit
theorem wfN{i:Nat}(h:i<138):(Lit.int .i64 (i:Int)).wf=true:=i64wf (by omega)
structure NodeB (w:World) (bn bp sz:Nat) (M:Nat->Option (List Int)):Prop where
 row:∃ (ao:Option Addr) (cap:Nat),w.heap[bn]? =some (.cells #[.int .i64 1,.int .i64 0,.int .i64 sz,.map (some bp),.slice ao 0 cap] 53 (0,0))
 map:∃ (K:List Int) (g:Int->Value),MpC w bp K g/\(∀ x∈K,0<=x/\x<138)/\(∀ i:Nat,(i:Int)∈K ↔ (M i).isSome=true)/\∀ (i:Nat) l,M i=some l->g i=.string (strOfNums l)
 ok:OkB M
 sb:sz<=35328
section
variable {w:World}{bn bp sz:Nat}{M:Nat->Option (List Int)}
theorem NodeB.lt(h:NodeB w bn bp sz M):bn<w.heap.size/\bp<w.heap.size:=by
 obtain⟨ao,cap,h1⟩:=h.row;obtain⟨K,g,h2,_⟩:=h.map;exact⟨(Array.getElem?_eq_some_iff.1 h1).1,h2.lt⟩
theorem NodeB.keep{w':World}(h:NodeB w bn bp sz M)(h1:w'.heap[bn]? =w.heap[bn]?)(h2:w'.heap[bp]? =w.heap[bp]?):NodeB w' bn bp sz M:=by
 obtain⟨ao,cap,a⟩:=h.row;obtain⟨K,g,b,c⟩:=h.map;exact⟨⟨ao,cap,h1.trans a⟩,⟨K,g,b.keep h2,c⟩,h.ok,h.sb⟩
theorem NodeB.low{w':World}(h:NodeB w bn bp sz M)(hb:Below w.heap.size w w'):NodeB w' bn bp sz M:=h.keep (hb.block _ h.lt.1) (hb.block _ h.lt.2)
theorem NodeB.c0(h:NodeB w bn bp sz M):w.cell? ⟨bn,0,none⟩=some (.int .i64 1):=by
 obtain⟨ao,cap,a⟩:=h.row;rw[cell_of_row _ _ _ _ _ _ a];rfl
theorem NodeB.c2(h:NodeB w bn bp sz M):w.cell? ⟨bn,2,none⟩=some (.int .i64 sz):=by
 obtain⟨ao,cap,a⟩:=h.row;rw[cell_of_row _ _ _ _ _ _ a];rfl
theorem NodeB.c3(h:NodeB w bn bp sz M):w.cell? ⟨bn,3,none⟩=some (.map (some bp)):=by
 obtain⟨ao,cap,a⟩:=h.row;rw[cell_of_row _ _ _ _ _ _ a];rfl
theorem NodeB.fr(h:NodeB w bn bp sz M)(j:Nat):w.frozen? ⟨bn,j,none⟩=false:=by
 obtain⟨ao,cap,a⟩:=h.row;simp[World.frozen?,a]
theorem NodeB.ne(h:NodeB w bn bp sz M):bp≠bn:=by
 obtain⟨ao,cap,a⟩:=h.row;obtain⟨K,g,b,_⟩:=h.map;exact b.not_cells a
theorem NodeB.hi(h:NodeB w bn bp sz M){i:Nat}(hi:(M i).isSome=true):i<138:=by
 obtain⟨K,g,b,c,e,_⟩:=h.map;have:=c i ((e i).2 hi);omega
theorem NodeB.look(h:NodeB w bn bp sz M){i:Nat}(hi:i<138):(Instr.lookup 50 (.map (some bp)) (.int .i64 i) true).run Tryz.prog w=.ok (.tuple #[.string (strOfNums ((M i).getD [])),.bool (M i).isSome]) w:=by
 obtain⟨K,g,b,c,e,f⟩:=h.map;have hl:=b.look_ok (wfN hi);cases hm:M i
 . have hn:¬ (i:Int)∈K:=fun x=>by have:=(e i).1 x;rw[hm] at this;cases this
   rw[if_neg hn,decide_eq_false hn] at hl;exact hl
 . next l=>
   have hn:(i:Int)∈K:=(e i).2 (by rw[hm];rfl);rw[if_pos hn,decide_eq_true hn,f i l hm] at hl;exact hl
theorem keysC_le{K:List Int}(hn:K.Nodup)(hb:∀ x∈K,0<=x/\x<138):K.length<=138:=by
 have:=nodup_le K ((List.range 138).map (fun i:Nat=>(i:Int))) hn fun a ha=>List.mem_map.2 ⟨a.toNat,List.mem_range.2 (by have:=hb a ha;omega),by have:=hb a ha;omega⟩
 rwa [List.length_map,List.length_range] at this
theorem addS_in{K:List Int}{n y:Int}:y∈addS K n ↔ y∈K\/y=n:=by
 unfold addS;split
 . exact⟨.inl,fun h=>h.elim id fun e=>by rw[e];assumption⟩
 . simp
theorem NodeB.put(h:NodeB w bn bp sz M){i:Nat}(hi:i<138){l:List Int}(hl:l.length=256)(hb:Byt l):
 ∃ w',(Instr.mapUpdate 50 (.map (some bp)) (.int .i64 i) (.string (strOfNums l))).run Tryz.prog w=.ok () w'/\NodeB w' bn bp sz (updB M i l)/\w.grownBy w' (some bp)/\w'.heap.size=w.heap.size:=by
 have hne:=h.ne;obtain⟨ao,cap,a⟩:=h.row;obtain⟨K,g,b,c,e,f⟩:=h.map;obtain⟨w',hr,hm,hg,hs⟩:=b.store (wfN hi) (sdB_some (strOfNums l)) (by have:=keysC_le b.nodup c;omega);refine⟨w',hr,⟨⟨ao,cap,(hg.block bn (Array.getElem?_eq_some_iff.1 a).1 (by intro e;exact hne (Option.some.inj e).symm)).trans a⟩,⟨_,_,hm,fun x hx=>?_,fun j=>?_,fun j m hj=>?_⟩,h.ok.upd i hl hb,h.sb⟩,hg,hs⟩
 . rcases addS_in.1 hx with hx|rfl
   . exact c x hx
   . omega
 . rw[addS_in]
   by_cases e1:j=i
   . subst e1;rw[Zcn];exact⟨fun _=>rfl,fun _=>.inr rfl⟩
   . rw[Zbu _ e1,e j];exact⟨fun h=>h.resolve_right (by omega),.inl⟩
 . show(if (j:Int)=i then _ else g j)=_
   by_cases e1:j=i
   . subst e1;rw[Zcn] at hj;cases hj;rw[if_pos rfl]
   . rw[Zbu _ e1] at hj;rw[if_neg (by omega)];exact f j m hj
theorem NodeB.drop(h:NodeB w bn bp sz M){i:Nat}(hi:i<138)(ty:TypeId):
 ∃ w',(Builtin.delete_ #[50,3] ty #[.map (some bp),.int .i64 i]).run Tryz.prog w=.ok (.tuple #[]) w'/\NodeB w' bn bp sz (fun j=>if j=i then none else M j)/\w.grownBy w' (some bp)/\w'.heap.size=w.heap.size:=by
 have hne:=h.ne;obtain⟨ao,cap,a⟩:=h.row;obtain⟨K,g,b,c,e,f⟩:=h.map;obtain⟨w',hr,hm,hg,hs⟩:=b.drop (wfN hi) ty;have hnd:=b.nodup;have key:∀ j l,(if j=i then none else M j)=some l->j≠i/\M j=some l:=fun j l hj=>by
  split at hj
  . cases hj
  . next hn=>exact⟨hn,hj⟩
 refine⟨w',hr,⟨⟨ao,cap,(hg.block bn (Array.getElem?_eq_some_iff.1 a).1 (by intro e;exact hne (Option.some.inj e).symm)).trans a⟩,⟨_,_,hm,fun x hx=>c x (List.mem_of_mem_erase hx),fun j=>?_,fun j m hj=>f j m (key j m hj).2⟩,⟨fun j l hj=>h.ok.len j l (key j l hj).2,fun j l hj=>h.ok.byt j l (key j l hj).2⟩,h.sb⟩,hg,hs⟩;rw[hnd.mem_erase_iff,e j];by_cases e1:j=i
 . subst e1;rw[if_pos rfl];exact⟨fun h=>absurd rfl h.1,fun h=>by cases h⟩
 . rw[if_neg e1];exact⟨fun h=>h.2,fun h=>⟨by omega,h⟩⟩
theorem row_set2{w:World}{b:Nat}{c0 c1 c2 c3 c4:Value}{T:TypeId}(h:w.heap[b]? =some (.cells #[c0,c1,c2,c3,c4] T (0,0)))(x:Value):(w.setCell ⟨b,2,none⟩ x).heap[b]? =some (.cells #[c0,c1,x,c3,c4] T (0,0)):=by
 rw[heap_setCell_same w b 2 _ _ x h];rfl
theorem NodeB.size(h:NodeB w bn bp sz M){s:Nat}(hs:s<=35328):NodeB (w.setCell ⟨bn,2,none⟩ (.int .i64 s)) bn bp s M/\Wrote w (w.setCell ⟨bn,2,none⟩ (.int .i64 s)) bn:=by
 have hne:=h.ne;have hw:=Wrote.setCell w bn 2 (.int .i64 s);obtain⟨ao,cap,a⟩:=h.row;obtain⟨K,g,b,c⟩:=h.map;exact⟨⟨⟨ao,cap,row_set2 a _⟩,⟨K,g,b.keep (hw.2.2.2.2 bp hne),c⟩,h.ok,hs⟩,hw⟩
theorem NodeB.congr(h:NodeB w bn bp sz M){M':Nat->Option (List Int)}(e:M'=M):NodeB w bn bp sz M':=e ▸ h
theorem Zgc(h:NodeB w bn bp sz M):Calls Tryz.prog 14 #[.pointer (some ⟨bn,0,none⟩)] w fun e w'=>e=.returned (.int .i64 (Zar M:Nat))/\w=w':=by
 have c0:=h.c0;have c3:=h.c3;have HL:=hid (fun(i:Nat) (hi:i<138)=>h.look hi);have HC:Hid (∀ k,k<=138->cntX (keyB M) k<=138):=hid fun k hk=>by
  have h1:=Zkp (f:=keyB M) (g:=fun _=>1) k fun i hi e=>by decide
  have h2:∀ k,cntX (fun _=>1) k=k:=fun k=>by
   induction k with
   |zero=>rfl
   |succ k ih=>rw[cntX,ih,if_pos (by decide)]
  rw[h2] at h1;omega
 have HF:=hid (farB_le M);obtain⟨T,hT⟩:∃ T,T=Zar M:=⟨_,rfl⟩;have HT:Hid (T=cntX (keyB M) 138+farB M 138):=hid hT;rw[<- hT];clear h hT;go_enter Tryz.func14,Tryz.ntmps14;go_wp2;go_loopw [3,4,20] (fun m f i wr=>w=wr/\∃ k:Nat,k<=138/\i=.int .i64 k/\m=.int .i64 (cntX (keyB M) k:Nat)/\f=.int .i64 (farB M k:Nat)) (fun _ _ i _=>138-(intOf i).toNat)
 case atStart=>exact⟨rfl,0,by omega,rfl,rfl,rfl⟩
 case round=>
  obtain⟨rfl,k,hk,rfl,rfl,rfl⟩:=hrel;have hck:=HC.out k hk;have hfk:=HF.out k;by_cases hlt:k<138
  . have hs:=HL.out k hlt
    have ek:(k:Int)<138:=by omega
    have h1:cntX (keyB M) (k+1)=cntX (keyB M) k+if keyB M k≠0 then 1 else 0:=rfl
    have h2:farB M (k+1)=if (M k).isSome/\10<=k then 1 else farB M k:=rfl
    obtain⟨c,hc⟩:∃ c,c=cntX (keyB M) k:=⟨_,rfl⟩;obtain⟨f,hf⟩:∃ f,f=farB M k:=⟨_,rfl⟩;rw[<- hc] at h1 hck |-
    rw[<- hf] at h2 hfk |-
    clear hc hf;cases hin:(M k).isSome
    . rw[hin] at hs
      have HE1:Hid (cntX (keyB M) (k+1)=c):=hid (by rw[h1,if_neg (fun e=>by have:=keyB_ne.1 e;rw[hin] at this;cases this)];rfl);have HE2:Hid (farB M (k+1)=f):=hid (by rw[h2,if_neg (fun h=>by have:=h.1;rw[hin] at this;cases this)]);generalize strOfNums ((M k).getD [])=st at hs;clear h1 h2 hin;go_wp2;go_roundw
      case rel=>exact⟨by trivial,k+1,by omega,by go_num,by rw[HE1.out],by rw[HE2.out]⟩
      case measure=>simp[intOf];omega
    . rw[hin] at hs
      have e1:cntX (keyB M) (k+1)=c+1:=by rw[h1,if_pos (keyB_ne.2 hin)]
      have HE1:=hid e1;generalize strOfNums ((M k).getD [])=st at hs;by_cases h10:10<=k
      . have HE2:Hid (farB M (k+1)=1):=hid (by rw[h2,if_pos ⟨hin,h10⟩])
        have e10:(10:Int)<=(k:Int):=by omega
        clear e1 h1 h2 hin;go_wp2;go_roundw
        case rel=>exact⟨by trivial,k+1,by omega,by go_num,by rw[HE1.out];go_num,by rw[HE2.out];rfl⟩
        case measure=>simp[intOf];omega
      . have HE2:Hid (farB M (k+1)=f):=hid (by rw[h2,if_neg (fun h=>h10 h.2)])
        have e10:¬ (10:Int)<=(k:Int):=by omega
        clear e1 h1 h2 hin;go_wp2;go_roundw
        case rel=>exact⟨by trivial,k+1,by omega,by go_num,by rw[HE1.out];go_num,by rw[HE2.out]⟩
        case measure=>simp[intOf];omega
  . obtain rfl:k=138:=by omega
    have hT:=HT.out;obtain⟨c,hc⟩:∃ c,c=cntX (keyB M) 138:=⟨_,rfl⟩;obtain⟨f,hf⟩:∃ f,f=farB M 138:=⟨_,rfl⟩;rw[<- hc] at hck hT |-
    rw[<- hf] at hfk hT |-
    have HT2:=hid hT;clear hc hf hT;go_wp2;go_ret;exact⟨by rw[HT2.out];push_cast;rfl,rfl⟩
end
def strB(s:ByteArray):List Int:=s.data.toList.map fun c=>(c.toNat:Int)
theorem strB_length(s:ByteArray):(strB s).length=s.size:=by
 rw[strB,List.length_map,Array.length_toList];rfl
theorem strB_byt(s:ByteArray):Byt (strB s):=Zax fun x hx=>by
 obtain⟨c,_,rfl⟩:=List.mem_map.1 hx;have:=c.toNat_lt;omega
theorem strB_strOf{l:List Int}(h:Byt l):strB (strOfNums l)=l:=by
 unfold strB;rw[strOfNums_data,List.map_map]
 conv=>rhs;rw[<- List.map_id l]
 apply List.map_congr_left;intro x hx;have:=Zbo h x hx;simp;omega
theorem strB_cells(s:ByteArray):Lib.strCells s=(strB s).map (Value.int .u8):=by
 unfold Lib.strCells strB;rw[List.map_map];rfl
theorem Zku(w:World){ops:Array Oper}{rest:List Oper}{o:Oper}{a:Act}{Q:Exit->Act->World->Prop}(hgd:o.guard=none)(s x:Operand)
 (ho:o.op=.call { callee:=.builtin .append,args:=#[s,x],argTypes:=#[30,9] })
 (B:Nat) (v:Value) (l:List Int) (hs:a.eval s=v) (hown:OB w B v l) (n:ByteArray) (hx:a.eval x=.string n) (hlen:l.length+n.size<=1000000) (hB:B<=w.heap.size)
 (h:∀ v' w',OB w' B v' (l ++ strB n)->Below B w w'->wpList Tryz.prog ops Q rest (a.put o.dst v') w'):wpList Tryz.prog ops Q (o :: rest) a w:=by
 obtain⟨i,h2,h3,h4,h5⟩:=info_parts Zke;refine Lib.wpList_append_own_string w hgd s x 30 9 ho B 5 i Tryz.underlying30 Tryz.underlying9 h2 h3 h4 h5 v l.length _ hs hown.2 n hx (by simp only[maxLen];omega) (by omega) hB fun v' w' h6 h7 _=>?_
 refine h v' w' ⟨Zdc hown.1 (strB_byt n),?_⟩ ((Below.refl _ _).grown h7 hB fun k hk=>(hown.2.lt k hk).1);rw[List.length_append,List.map_append,strB_length,<- strB_cells];exact h6
end Go.Proofs.YtedabomlfcghoaaGreat
namespace Go.Proofs.YtedabomlfcghoaaGreat
set_option maxRecDepth 100000
open Go.RowKit BM
theorem Zjp(a b:List Int):strOfNums a ++ strOfNums b=strOfNums (a ++ b):=by
 apply ByteArray.ext;rw[ByteArray.data_append];apply Array.ext';rw[Array.toList_append,strOfNums_data,strOfNums_data,strOfNums_data,List.map_append]
theorem Zea(l:List Int)(i j:Nat):(strOfNums l).extract i j=strOfNums ((l.drop i).take (j-i)):=by
 apply ByteArray.ext;apply Array.ext';rw[Lib.extract_data,strOfNums_data,strOfNums_data,List.map_take,List.map_drop]
theorem byt_zeros(n:Nat):Byt (List.replicate n 0):=Zba n
theorem zeros_bsl(w:World)(n:Nat)(hn:n<=100000):BSl (w.alloc (.cells (Array.replicate n (.int .u8 0)) 5)) (.slice (some ⟨w.heap.size,0,none⟩) n n) (List.replicate n 0):=by
 have h:(w.alloc (.cells (Array.replicate n (.int .u8 0)) 5)).heap[w.heap.size]? =some (.cells (((List.replicate n (0:Int)).map (Value.int .u8)) ++ []).toArray 5 (0,0)):=by
  rw[heap_alloc_new,List.append_nil,List.map_replicate];simp
 have:=OB.of_heap (B:=w.heap.size) (cap:=n) (byt_zeros n) (Nat.le_refl _) h (by simp) (by simp only[maxLen];omega);have h2:=OB.bsl this;rw[List.length_replicate] at h2;exact h2
theorem zeros15_of(w:World)(n:Nat)(hn:n<=100000):Calls Tryz.prog 49 #[.int .i64 n] w fun e w'=>e=.returned (.string (strOfNums (List.replicate n 0)))/\Below w.heap.size w w':=by
 have hc:=Zfl (zeros_bsl w n hn);have hb:=Zaa w (.cells (Array.replicate n (.int .u8 0)) 5);generalize strOfNums (List.replicate n 0)=st at hc |-
 go_enter Tryz.func49,Tryz.ntmps49;go_wp2_with (refine Zay w rfl _ _ (by rfl) (n:Int) n (by rfl) (by rfl) rfl (by omega) ?_)
 go_ret;exact⟨rfl,hb⟩
section
variable {w:World}{bn bp sz:Nat}{M:Nat->Option (List Int)}
theorem nBlock15_of(h:NodeB w bn bp sz M){i:Nat}(hi:i<138):Calls Tryz.prog 35 #[.pointer (some ⟨bn,0,none⟩),.int .i64 i] w fun e w'=>e=.returned (.string (strOfNums (bkB M i)))/\Below w.heap.size w w':=by
 have c3:=h.c3;have hl:=h.look hi;have hz:=hid (zeros15_of w 256 (by decide));obtain⟨S,hS⟩:∃ S,S=strOfNums (bkB M i):=⟨_,rfl⟩;rw[<- hS];cases hm:M i
 . have hz2:Hid (Calls Tryz.prog 49 #[.int .i64 256] w fun e w'=>e=.returned (.string S)/\Below w.heap.size w w'):=hid (by
    rw[hS];unfold bkB;rw[hm];exact hz.out)
   rw[hm] at hl;clear hz hS hm h;go_enter Tryz.func35,Tryz.ntmps35
   go_wp2_with (
    go_at_call 49;(with_reducible refine hz2.out.mono ?_);rintro e w2 ⟨rfl,hb2⟩)
   go_ret;exact⟨rfl,hb2⟩
 . next l=>
   have e:strOfNums ((some l).getD [])=S:=by rw[hS];unfold bkB;rw[hm];rfl
   rw[hm,e] at hl;clear hz hS hm h e;go_enter Tryz.func35,Tryz.ntmps35;go_wp2;go_ret;exact⟨rfl,Below.refl _ _⟩
end
theorem infoREb:(Tryz.prog.info? 306).map (fun i=>(i.zero,i.size,i.bytes))=some (some (.agg #[.int .i64 0,.string ⟨#[]⟩]),2,24):=by kernel_rfl
theorem build_noneB(W:World):(Instr.buildSlice 51 0 #[]).run Tryz.prog W=.ok (.slice (some ⟨W.heap.size,0,none⟩) 0 0) (W.alloc (.cells #[] 306)):=by
 obtain⟨t,h2,h3,h4,h5⟩:=info_parts infoREb;simp[Instr.buildSlice,run_underlying Tryz.underlying51,sizeOf,typeInfo,h2,newRow,Instr.fill,Array.range];congr 2;apply Array.ext
 . simp
 . intro i h1 h3
   simp at h3
theorem append_noneB(W:World)(ao:Option Addr)(cap:Nat)(ty:TypeId)(g:Addr):(Builtin.append_ #[51,51] ty #[.slice (some g) 0 0,.slice ao 0 cap]).run Tryz.prog W=.ok (.slice (some g) 0 0) W:=by
 obtain⟨t,h2,h3,h4,h5⟩:=info_parts infoREb;cases ao <;> simp[Builtin.lenOf,Builtin.firstCells,storeCells,loadCells,loadCellsFrom,Builtin.append_,run_underlying Tryz.underlying51,sizeOf,typeInfo,zeroValue,h2,h3,h5]
theorem Zkz{ops:Array Oper}{o:Oper}{a:Act}{w:World}{K:Act->World->Prop}{Q:Exit->Act->World->Prop}{E:Prop}(hgd:o.guard=none)(s x:Operand)
 (ho:o.op=.call { callee:=.builtin .append,args:=#[s,x],argTypes:=#[51,51] }) (ao:Option Addr) (cap:Nat) (g:Addr) (hs:a.eval s=.slice (some g) 0 0) (hx:a.eval x=.slice ao 0 cap)
 (h:K (a.put o.dst (.slice (some g) 0 0)) w):if Region.wanted o (yielded ops a.tmps)=true then Oper.wp Tryz.prog o a w K Q else E:=by
 rw[if_pos (by simp[Region.wanted,hgd])];have hr:=append_noneB w ao cap o.type g;unfold Oper.wp execOp;simp only[ho,resolve,invoke,builtin,Sem.run_bind,Sem.run_pure,Result.andThen_ok,List.map_toArray,List.map_cons,List.map_nil,hs,hx,hr];exact h
theorem Below.alB{w V:World}(hb:Below w.heap.size w V)(o:Obj):Below w.heap.size w (V.alloc o):=hb.trans ((Zaa V o).mono hb.size)
def CpB(w:World)(M:Nat->Option (List Int))(sz bn k:Nat)(wr:World):Prop:=
 Below w.heap.size w wr/\w.heap.size<=bn/\∃ bp,w.heap.size<=bp/\NodeB wr bn bp sz fun i=>if i<k then M i else none
theorem ok_pre{M:Nat->Option (List Int)}(h:OkB M)(k:Nat):OkB fun i=>if i<k then M i else none:=by
 have key:∀ i l,(if i<k then M i else none)=some l->M i=some l:=fun i l e=>by
  split at e
  . exact e
  . cases e
 exact⟨fun i l e=>h.len i l (key i l e),fun i l e=>h.byt i l (key i l e)⟩
theorem cpB_start{w wr:World}{M:Nat->Option (List Int)}{sz bn bp:Nat}{ao:Option Addr}{cap:Nat}(hk:OkB M)(hs:sz<=35328)(hb:Below w.heap.size w wr)(h1:w.heap.size<=bn)(h2:w.heap.size<=bp)(hn:wr.heap[bn]? =some (.cells #[.int .i64 1,.int .i64 0,.int .i64 sz,.map (some bp),.slice ao 0 cap] 53 (0,0)))(hm:MpC wr bp [] fun _=>.bool true):CpB w M sz bn 0 wr:=
 ⟨hb,h1,bp,h2,⟨ao,cap,hn⟩,⟨[],_,hm,fun x hx=>absurd hx List.not_mem_nil,fun i=>⟨fun h=>absurd h List.not_mem_nil,fun h=>by rw[if_neg (Nat.not_lt_zero i)] at h;cases h⟩,fun i l h=>by rw[if_neg (Nat.not_lt_zero i)] at h;cases h⟩,ok_pre hk 0,hs⟩
theorem CpB.step{w wr:World}{M:Nat->Option (List Int)}{sz bn k:Nat}{l:List Int}(h:CpB w M sz bn k wr)(hk:k<138)(hM:OkB M)(hin:M k=some l):
 ∃ bp w',wr.cell? ⟨bn,3,none⟩=some (.map (some bp))/\(Instr.mapUpdate 50 (.map (some bp)) (.int .i64 k) (.string (strOfNums l))).run Tryz.prog wr=.ok () w'/\CpB w M sz bn (k+1) w':=by
 obtain⟨hb,h1,bp,h2,hn⟩:=h;obtain⟨w',hr,hn',hg,hs⟩:=hn.put hk (hM.len k l hin) (hM.byt k l hin);refine⟨bp,w',hn.c3,hr,hb.trans ((Below.refl _ _).grown hg hb.size fun x hx=>by cases hx;exact h2),h1,bp,h2,hn'.congr ?_⟩;funext i;by_cases e:i=k
 . subst e;rw[Zcn,if_pos (Nat.lt_succ_self _),hin]
 . rw[Zbu _ e]
   by_cases c:i<k
   . rw[if_pos c,if_pos (by omega)]
   . rw[if_neg c,if_neg (by omega)]
theorem CpB.skip{w wr:World}{M:Nat->Option (List Int)}{sz bn k:Nat}(h:CpB w M sz bn k wr)(hin:M k=none):CpB w M sz bn (k+1) wr:=by
 obtain⟨hb,h1,bp,h2,hn⟩:=h;refine⟨hb,h1,bp,h2,hn.congr ?_⟩;funext i;by_cases e:i=k
 . subst e;rw[if_pos (Nat.lt_succ_self _),hin,if_neg (Nat.lt_irrefl _)]
 . by_cases c:i<k
   . rw[if_pos c,if_pos (by omega)]
   . rw[if_neg c,if_neg (by omega)]
theorem Zgd{w:World}{bn bp sz:Nat}{M:Nat->Option (List Int)}(h:NodeB w bn bp sz M):Calls Tryz.prog 25 #[.pointer (some ⟨bn,0,none⟩)] w fun e w'=>∃ bn' bp',e=.returned (.pointer (some ⟨bn',0,none⟩))/\NodeB w' bn' bp' sz M/\w.heap.size<=bn'/\w.heap.size<=bp'/\Below w.heap.size w w':=by
 have hok:=h.ok;have hsb:=h.sb;have HK:=hid hok;have HHI:=hid (fun i (hi:(M i).isSome=true)=>h.hi hi);have HN:Hid (∀ V,Below w.heap.size w V->NodeB V bn bp sz M):=hid fun V hV=>h.low hV
 obtain⟨ao,cap,hr⟩:=h.row;clear h;have HC:Hid (∀ V,Below w.heap.size w V->V.cell? ⟨bn,0,none⟩=some (.int .i64 1)/\V.cell? ⟨bn,1,none⟩=some (.int .i64 0)/\V.cell? ⟨bn,2,none⟩=some (.int .i64 sz)/\V.cell? ⟨bn,4,none⟩=some (.slice ao 0 cap)):=hid fun V hV=>by
  have hr2:=Zad hr hV;exact⟨by rw[cell_of_row _ _ _ _ _ _ hr2];rfl,by rw[cell_of_row _ _ _ _ _ _ hr2];rfl,by rw[cell_of_row _ _ _ _ _ _ hr2];rfl,by rw[cell_of_row _ _ _ _ _ _ hr2];rfl⟩
 have hmm:=@run_makeMap Tryz.prog;have hbs:=build_noneB;have hap:=fun W ty g=>append_noneB W ao cap ty g
 have HA:Hid (CpB w M sz (w.heap.size+1+1) 0 (((w.alloc (.map #[] 0)).alloc (.cells #[] 306)).alloc (.cells #[.int .i64 1,.int .i64 0,.int .i64 sz,.map (some w.heap.size),.slice (some ⟨w.heap.size+1,0,none⟩) 0 0] 53)).drew):=hid (by
  have h3:=heap_alloc_new ((w.alloc (.map #[] 0)).alloc (.cells #[] 306)) (.cells #[.int .i64 1,.int .i64 0,.int .i64 sz,.map (some w.heap.size),.slice (some ⟨w.heap.size+1,0,none⟩) 0 0] 53);rw[show((w.alloc (.map #[] 0)).alloc (.cells #[] 306)).heap.size=w.heap.size+1+1 by simp] at h3;have b1:=Zaa (w.alloc (.map #[] 0)) (.cells #[] 306);have b2:=Zaa ((w.alloc (.map #[] 0)).alloc (.cells #[] 306)) (.cells #[.int .i64 1,.int .i64 0,.int .i64 sz,.map (some w.heap.size),.slice (some ⟨w.heap.size+1,0,none⟩) 0 0] 53);have h4:=((MpC.made w fun _=>.bool true).keep (b1.block _ (by simp))).keep (b2.block _ (by simp;omega));exact cpB_start hok hsb (Below.alB (w:=w) (Below.alB (w:=w) (Below.alB (w:=w) (Below.refl _ w) _) _) _).drew (by omega) (Nat.le_refl _) h3 h4)
 have HB:Hid (CpB w M sz (w.heap.size+1+1) 0 (((w.alloc (.cells #[] 306)).alloc (.map #[] 0)).alloc (.cells #[.int .i64 1,.int .i64 0,.int .i64 sz,.map (some (w.heap.size+1)),.slice (some ⟨w.heap.size,0,none⟩) 0 0] 53)).drew):=hid (by
  have h3:=heap_alloc_new ((w.alloc (.cells #[] 306)).alloc (.map #[] 0)) (.cells #[.int .i64 1,.int .i64 0,.int .i64 sz,.map (some (w.heap.size+1)),.slice (some ⟨w.heap.size,0,none⟩) 0 0] 53);rw[show((w.alloc (.cells #[] 306)).alloc (.map #[] 0)).heap.size=w.heap.size+1+1 by simp] at h3;have b2:=Zaa ((w.alloc (.cells #[] 306)).alloc (.map #[] 0)) (.cells #[.int .i64 1,.int .i64 0,.int .i64 sz,.map (some (w.heap.size+1)),.slice (some ⟨w.heap.size,0,none⟩) 0 0] 53);have h4:=MpC.made (w.alloc (.cells #[] 306)) fun _=>.bool true
  rw[show(w.alloc (.cells #[] 306)).heap.size=w.heap.size+1 by simp] at h4;exact cpB_start hok hsb (Below.alB (w:=w) (Below.alB (w:=w) (Below.alB (w:=w) (Below.refl _ w) _) _) _).drew (by omega) (by omega) h3 (h4.keep (b2.block _ (by simp))))
 clear hr hok hsb;go_enter Tryz.func25,Tryz.ntmps25;go_wp2;go_region_held3 (fun V=>V.cell? ⟨bn,0,none⟩=some (.int .i64 1)/\V.cell? ⟨bn,1,none⟩=some (.int .i64 0)/\V.cell? ⟨bn,2,none⟩=some (.int .i64 sz)/\V.cell? ⟨bn,4,none⟩=some (.slice ao 0 cap)) ((refine HC.out _ ?_;repeat (first|exact Below.refl _ _|refine Below.alB ?_ _|refine Below.drew ?_))) (first|(refine Zkz rfl _ _ rfl ao cap _ rfl rfl ?_))
 all_goals
  clear hmm hbs hap HC;go_wp2;go_loopw [28] (fun i wr=>∃ k:Nat,k<=138/\i=.int .i64 k/\Hid (CpB w M sz (w.heap.size+1+1) k wr)) (fun i _=>138-(intOf i).toNat)
  case atStart=>first|exact⟨0,by omega,rfl,HA⟩|exact⟨0,by omega,rfl,HB⟩
  case round=>
   obtain⟨k,hk,rfl,HI⟩:=hrel;clear HA HB;by_cases hlt:k<138
   . have hn:=HN.out wr HI.out.1
     have c3:=hn.c3;have hs:=hn.look hlt;have ek:(k:Int)<138:=by omega
     cases hin:M k
     . rw[hin] at hs
       replace hs:(Instr.lookup 50 (.map (some bp)) (.int .i64 k) true).run Tryz.prog wr=.ok (.tuple #[.string (strOfNums []),.bool false]) wr:=hs;have HI2:=hid (HI.out.skip hin);generalize strOfNums []=st at hs;clear hn hin;go_wp2;go_roundw
       case rel=>exact⟨k+1,by omega,by go_num,HI2⟩
       case measure=>simp[intOf];omega
     . next l=>
       rw[hin] at hs;replace hs:(Instr.lookup 50 (.map (some bp)) (.int .i64 k) true).run Tryz.prog wr=.ok (.tuple #[.string (strOfNums l),.bool true]) wr:=hs;obtain⟨b2,w2,d3,hr,h2⟩:=HI.out.step hlt HK.out hin;have HI2:=hid h2;generalize strOfNums l=st at hs hr;clear hn hin h2;go_wp2;go_roundw
       case rel=>exact⟨k+1,by omega,by go_num,HI2⟩
       case measure=>simp[intOf];omega
   . obtain rfl:k=138:=by omega
     go_wp2;go_ret;obtain⟨hb,h1,bp',h2,hn'⟩:=HI.out;refine⟨_,bp',rfl,hn'.congr ?_,h1,h2,hb⟩;funext i;by_cases c:i<138
     . rw[if_pos c]
     . rw[if_neg c]
       cases hm:M i
       . rfl
       . exact absurd (HHI.out i (by rw[hm];rfl)) c
def NP(bn bp:Nat):Nat->Prop:=fun j=>j=bn\/j=bp
def szW(sz a j:Nat):Nat:=if j=0 then sz else max sz (a+j)
theorem szW_succ(sz a j:Nat):szW sz a (j+1)=max (szW sz a j) (a+j+1):=by
 unfold szW;rw[if_neg (by omega)];split <;> omega
theorem wrL_take{M:Nat->Option (List Int)}{a:Nat}{l:List Int}{j:Nat}(h:j<l.length):wrL M a (l.take (j+1))=wr1 (wrL M a (l.take j)) (a+j) (l.getD j 0):=by
 rw[List.take_succ_eq_append_getElem h,Zih,List.length_take,Nat.min_eq_left (by omega),List.getD_eq_getElem?_getD,List.getElem?_eq_getElem h];rfl
theorem str_set{B:List Int}(hB:B.length=256){k:Nat}(hk:k<256)(x:Int):((strOfNums B).extract 0 k ++ strOfNums [x]) ++ (strOfNums B).extract (k+1) (strOfNums B).size=strOfNums (B.set k x):=by
 rw[Zea,Zea,Zjp,Zjp,strOfNums_size];congr 1;rw[List.drop_zero,Nat.sub_zero,List.set_eq_take_append_cons_drop,if_pos (by omega),List.append_assoc,List.take_of_length_le (l:=B.drop (k+1)) (by simp)];rfl
theorem byte_part{w:World}{v:Value}{l:List Int}(hv:BSl w v l){j:Nat}(hj:j<l.length):∃ u,(∀ W,(Instr.slice 30 v (some (.int .i64 (j:Int))) (some (.int .i64 ((j+1:Nat):Int))) none).run Tryz.prog W=.ok u W)/\∀ W,BSl W v l->(convert 30 9 u).run Tryz.prog W=.ok (.string (strOfNums [l.getD j 0])) W:=by
 obtain⟨b,off,cap,rfl,hc,_⟩:=hv.open' (by omega);refine⟨.slice (some ⟨b,off+j,none⟩) 1 (cap-j),fun W=>?_,fun W hW=>?_⟩
 . obtain⟨i,g2,g3,g4,g5⟩:=info_parts Zke
   have ee:Tryz.prog.elem 30=5:=by kernel_rfl
   have hs:(sizeOf 5).run Tryz.prog W=.ok 1 W:=by simp[sizeOf,typeInfo,g2,g4]
   rw[run_slice_lh W 30 _ l.length cap (by rw[ee];exact Tryz.underlying30) .i64 .i64 (j:Int) ((j+1:Nat):Int) (by omega) (by omega) (by omega),ee,hs];have hne:cap≠j:=by omega
   have e1:((j:Int)+1).toNat-j=1:=by omega
   simp[sliced,hne,Addr.add_lit,e1]
 . have h1:=hW.mid j 1 (by omega)
   have e:(l.drop j).take 1=[l.getD j 0]:=by
    rw[List.getD_eq_getElem?_getD,List.getElem?_eq_getElem hj,List.drop_eq_getElem_cons hj];rfl
   rw[e] at h1;exact Zfl h1
section
variable {w:World}{bn bp sz:Nat}{M:Nat->Option (List Int)}
theorem NodeB.chg_put{w w':World}(hg:w.grownBy w' (some bp)):Chg (NP bn bp) (NP bn bp) w w':=
 ⟨hg.os,hg.tape,hg.output,hg.size,fun k hk hn=>⟨hg.block k hk (fun e=>hn (.inr (Option.some.inj e))),hn⟩⟩
end
theorem BSl.cut{w:World}{ao:Option Addr}{cap C:Nat}{l:List Int}(hv:BSl w (.slice ao l.length cap) l)(hC:C<=l.length):BSl w (.slice ao C cap) (l.take C):=by
 have hl:(l.take C).length=C:=by rw[List.length_take];omega
 rcases hv.2 with⟨e,h0⟩| ⟨a,c,e,hc,hcl⟩
 . have h1:=Value.slice.inj e
   refine⟨Zbs hv.1 C,.inl ⟨?_,?_⟩⟩
   . rw[h1.1,h1.2.2,show C=0 by omega]
   . rw[show C=0 by omega];rfl
 . have h1:=Value.slice.inj e
   refine⟨Zbs hv.1 C,.inr ⟨a,c,by rw[h1.1,h1.2.2,hl],by omega,fun j hj=>?_⟩⟩;rw[hl] at hj;obtain⟨p1,p2,p3⟩:=hcl j (by omega);refine⟨p1,p2,?_⟩;rw[p3];simp[List.getD_eq_getElem?_getD,hj]
theorem Apt.cut{P:Nat->Prop}{ao:Option Addr}{n cap C:Nat}(h:Apt P (.slice ao n cap))(hC:C<=n):Apt P (.slice ao C cap):=fun ad m c e hm=>by
 have h1:=Value.slice.inj e;exact h ad n cap (by rw[h1.1]) (by omega)
section
variable {w:World}{bn bp sz:Nat}{M:Nat->Option (List Int)}
set_option maxHeartbeats 2000000 in
theorem nWrite15_of(h:NodeB w bn bp sz M){v:Value}{l:List Int}(hv:BSl w v l)(hap:Apt (NP bn bp) v){a C:Nat}(hC:C=min l.length 1024)(hl:(l.length:Int)<=9223372036854775807)(hx:a+C<=35328):
 Calls Tryz.prog 26 #[.pointer (some ⟨bn,0,none⟩),.int .i64 a,v] w fun e w'=>e=.returned (.tuple #[.int .i64 C,.int .i64 0])/\NodeB w' bn bp (szW sz a C) (wrL M a (l.take C))/\Chg (NP bn bp) (NP bn bp) w w':=by
 obtain⟨ao,cap,rfl,hcap⟩:=hv.shape;have hv1:=hv.cut (C:=C) (by omega);have hap1:=hap.cut (C:=C) (by omega);have hl1:(l.take C).length=C:=by rw[List.length_take];omega
 generalize l.take C=L at*
 have KB:=hid (fun(V:World) (s:Nat) (M:Nat->Option (List Int)) (hV:NodeB V bn bp s M) i (hi:i<138)=>nBlock15_of hV hi);have KP:Hid (∀ j,j<C->∃ u,(∀ W,(Instr.slice 30 (.slice ao C cap) (some (.int .i64 (j:Int))) (some (.int .i64 ((j+1:Nat):Int))) none).run Tryz.prog W=.ok u W)/\∀ W,BSl W (.slice ao C cap) L->(convert 30 9 u).run Tryz.prog W=.ok (.string (strOfNums [L.getD j 0])) W):=hid (fun(j:Nat) (hj:j<C)=>byte_part hv1 (j:=j) (by omega));have hcc:(C:Int)<=(cap:Int):=by omega
 have hcc2:C<=cap:=by omega
 have HMIN:∀ (W:World) ts tt,(Builtin.min_ ts tt #[.int .i64 (l.length:Int),.int .i64 1024]).run Tryz.prog W=.ok (.int .i64 (C:Int)) W:=fun W ts tt=>by
  rw[run_min_int2];congr 2;rw[hC];split <;> omega
 have g0:¬ (a:Int)<0:=by omega
 obtain⟨D,hD⟩:∃ D,D=35328-C:=⟨_,rfl⟩;have g1:IntKind.i64.wrap (35328-(C:Int))=(D:Int):=by rw[IntWalk.i64_in _ (by omega)];omega
 have g2:¬ (D:Int)<(a:Int):=by omega
 have HB:Hid (a+C<=35328/\C<=1024):=hid (by omega);have HN:=hid h;have HSB:=hid h.sb;have HV:=hid hv1;have HAP:=hid hap1;have HL1:=hid hl1;obtain⟨n0,hn0⟩:∃ n0,n0=l.length:=⟨_,rfl⟩;rw[<- hn0] at HMIN;rw[<- hn0];clear h hv hap hC hl hx hv1 hl1 hap1 hn0 hcap hD;go_enter Tryz.func26,Tryz.ntmps26;go_wp2;clear HMIN g0 g1 g2;go_loopw [27] (fun i wr=>∃ j:Nat,j<=C/\i=.int .i64 j/\NodeB wr bn bp (szW sz a j) (wrL M a (L.take j))/\Chg (NP bn bp) (NP bn bp) w wr) (fun i _=>C-(intOf i).toNat)
 case atStart=>exact⟨0,Nat.zero_le _,rfl,HN.out,Chg.refl _ _⟩
 case round=>
  obtain⟨j,hj,rfl,hn,hc⟩:=hrel;have hB:=HB.out;have hv:=(HV.out.chg HAP.out hc).1;by_cases hlt:j<C
  . obtain⟨s,hs⟩:∃ s,s=a+j:=⟨_,rfl⟩
    obtain⟨q,hq⟩:∃ q,q=s / 256:=⟨_,rfl⟩;obtain⟨f,hf⟩:∃ f,f=s%256:=⟨_,rfl⟩;have e1:(j:Int)<(C:Int):=by omega
    have q0:IntKind.i64.wrap ((a:Int)+(j:Int))=(s:Int):=by rw[IntWalk.i64_in _ (by omega)];omega
    have q1:((s:Int)).tdiv 256=q:=by rw[Int.tdiv_eq_ediv_of_nonneg (by omega),hq];omega
    have q2:((s:Int)).tmod 256=f:=by rw[Int.tmod_eq_emod_of_nonneg (by omega),hf];omega
    have q3:IntKind.i64.wrap ((j:Int)+1)=((j+1:Nat):Int):=by rw[IntWalk.i64_in _ (by omega)];omega
    have q4:IntKind.i64.wrap ((f:Int)+1)=((f+1:Nat):Int):=by rw[IntWalk.i64_in _ (by omega)];omega
    have HQ9:Hid (IntKind.i64.wrap (q:Int)=(q:Int)):=hid (by rw[IntWalk.i64_in _ (by omega)]);have HQ8:Hid (wrap64 (q:Int)=(q:Int)):=hid (by unfold wrap64;omega);have hq138:q<138:=by omega
    have KB2:=hid (KB.out wr _ _ hn q hq138);have hf2:f<256:=by omega
    have hok:=hn.ok;have hbl:=hok.blk q;have HPUT:=hid (fun(W:World) (hW:NodeB W bn bp (szW sz a j) (wrL M a (L.take j)))=>hW.put hq138 (l:=(bkB (wrL M a (L.take j)) q).set f (L.getD j 0)) (by rw[List.length_set];exact hbl.1) (byt_set hbl.2 _ (HV.out.1 j)));have HNEXT:Hid (updB (wrL M a (L.take j)) q ((bkB (wrL M a (L.take j)) q).set f (L.getD j 0))=wrL M a (L.take (j+1))):=hid (by rw[wrL_take (by have:=HL1.out;omega),<- hs,hq,hf];rfl);have HSTR:Hid (∃ S1 SX S3 SF,(strOfNums (bkB (wrL M a (L.take j)) q)).extract 0 f=S1/\S1 ++ strOfNums [L.getD j 0]=SX/\(strOfNums (bkB (wrL M a (L.take j)) q)).extract (f+1) (strOfNums (bkB (wrL M a (L.take j)) q)).size=S3/\SX ++ S3=SF/\SF=strOfNums ((bkB (wrL M a (L.take j)) q).set f (L.getD j 0))/\(S1.size:Int)<=256/\(SX.size:Int)<=256/\(S3.size:Int)<=256/\(f:Int)<=((strOfNums (bkB (wrL M a (L.take j)) q)).size:Int)/\((f+1:Nat):Int)<=((strOfNums (bkB (wrL M a (L.take j)) q)).size:Int)):=hid (by
     refine⟨_,_,_,_,rfl,rfl,rfl,rfl,str_set hbl.1 hf2 _,?_,?_,?_,?_,?_⟩
     . rw[Zea,strOfNums_size,List.length_take,List.length_drop];omega
     . rw[Zea,Zjp,strOfNums_size,List.length_append,List.length_take,List.length_drop,List.length_singleton];omega
     . rw[Zea,strOfNums_size,List.length_take,List.length_drop];omega
     . rw[strOfNums_size];omega
     . rw[strOfNums_size];omega)
    obtain⟨g,hg⟩:∃ g,g=f+1:=⟨_,rfl⟩;obtain⟨j1,hj1⟩:∃ j1,j1=j+1:=⟨_,rfl⟩;rw[<- hj1] at q3;have HJ1:=hid hj1;have KPJ:=hid (KP.out j hlt);rw[<- hj1] at KPJ;rw[<- hg] at HSTR q4;obtain⟨s1,hs1⟩:∃ s1,s1=s+1:=⟨_,rfl⟩;have HQ5:Hid (IntKind.i64.wrap ((s:Int)+1)=(s1:Int)):=hid (by rw[IntWalk.i64_in _ (by omega)];omega);have HQ6:Hid (∀ (W:World) ts tt,(Builtin.max_ ts tt #[.int .i64 (szW sz a j:Nat),.int .i64 (s1:Int)]).run Tryz.prog W=.ok (.int .i64 (szW sz a (j+1):Nat)) W):=hid fun W ts tt=>by
     rw[run_max_int2,szW_succ,hs1,hs];congr 2;generalize szW sz a j=z;split <;> omega
    have HBSZ:=hbl.1;generalize bkB (wrL M a (L.take j)) q=B at*
    have HF:Hid (f<256):=hid hf2;have HJ:Hid (j<C):=hid hlt;have HCC:=hid hcc;have HQ3:=hid q3;have HQ4:=hid q4;clear hs1 hbl hok HBSZ hf hq hs hB hg hj1 KP hcc hcc2 q3 q4;have q8:=HQ8.out
    go_upto_region 11 with(
     (go_at_call 35;(with_reducible refine KB2.out.mono ?_)
      rintro e w3 ⟨rfl,hb3⟩;have hn3:=hn.low hb3;have hv3:=hv.below hb3))
    obtain⟨u,hu1,hu2⟩:=KPJ.out;have hcv:=hu2 w3.drew hv3;clear hu2;have c3:w3.drew.cell? ⟨bn,3,none⟩=some (.map (some bp)):=hn3.c3;have q9:IntKind.i64.wrap (q:Int)=(q:Int):=HQ9.out;have q3:=HQ3.out;have q4:=HQ4.out;have HC3:Hid (Chg (NP bn bp) (NP bn bp) w w3.drew):=hid (hc.trans (Chg.of_below (Zab hb3 1)));have hnd:NodeB w3.drew bn bp (szW sz a j) (wrL M a (L.take j)):=hn3.keep rfl rfl;obtain⟨w4,hr4,hn4,hg4,hs4⟩:=HPUT.out _ hnd;have HR4:=hid hr4;have HC4:=hid (HC3.out.trans (NodeB.chg_put (bn:=bn) hg4));rw[HNEXT.out] at hn4;have HN4:=hid hn4;have c2:=hn4.c2;have hfr:=hn4.fr 2;clear hnd hn4 hg4 hs4 hr4 HPUT hn3 hv3;clear hv hn hb3 hc;obtain⟨S1,SX,S3,SF,he1,he2,he3,he4,he5,hz1,hz2,hz3,hz4,hz5⟩:=HSTR.out;have HE5:=hid he5;have hz6:((strOfNums [L.getD j 0]).size:Int)<=256:=by rw[strOfNums_size];simp
    generalize strOfNums [L.getD j 0]=SB1 at*
    generalize strOfNums B=SB at*
    have a1:∀ W,(Op.stringOp .add S1 SB1).run Tryz.prog W=.ok (.string SX) W:=fun W=>by rw[run_string_add W _ _ (by omega) (by omega),he2]
    have a2:∀ W,(Op.stringOp .add SX S3).run Tryz.prog W=.ok (.string SF) W:=fun W=>by rw[run_string_add W _ _ (by omega) (by omega),he4]
    clear he5 hz1 hz2 hz3 hz6;go_still_tail 23,(by kernel_rfl)
    change wpList _ _ _ _ _ w3.drew;have hr4:=HR4.out;rw[<- HE5.out] at hr4;clear c3 he1 he2 he3 he4 hz4 hz5 a1 a2 hu1 hcv q4 q9;have q5:=HQ5.out;have q6:=HQ6.out;go_wp2;go_roundw
    case rel=>
     obtain⟨h5,h6⟩:=HN4.out.size (s:=szW sz a (j+1)) (by have:=HB.out;have:=HJ.out;unfold szW;have:=HSB.out;clear q3 q5 q6;split <;> omega);refine⟨j1,by have:=HJ.out;have:=HJ1.out;omega,rfl,?_,?_⟩
     . rw[HJ1.out];exact h5
     . exact HC4.out.trans ⟨h6.1,h6.2.1,h6.2.2.1,Nat.le_of_eq h6.2.2.2.1.symm,fun k hk hn=>⟨h6.2.2.2.2 k (fun e=>hn (.inl e)),hn⟩⟩
    case measure=>clear q3 q5 q6;have:=HJ.out;have:=HJ1.out;simp[intOf];omega
  . obtain rfl:j=C:=by omega
    have e1:¬ (j:Int)<(j:Int):=by omega
    have HNN:=hid hn;have HCC:=hid hc;have HTK:Hid (L.take j=L):=hid (List.take_of_length_le (by have:=HL1.out;omega));clear hn hc hv hB KB KP hcc hcc2;go_wp2;go_ret2;exact⟨rfl,by have:=HNN.out;rw[HTK.out] at this;exact this,HCC.out⟩
end
theorem nWrite15_neg(p:Value){w:World}{v:Value}{l:List Int}(hv:BSl w v l)(hl:(l.length:Int)<=9223372036854775807){a:Int}(ha:a<0):
 Calls Tryz.prog 26 #[p,.int .i64 a,v] w fun e w'=>e=.returned (.tuple #[.int .i64 0,.int .i64 1])/\Below w.heap.size w w':=by
 obtain⟨ao,cap,rfl,hcap⟩:=hv.shape;obtain⟨C,hC⟩:∃ C,C=min l.length 1024:=⟨_,rfl⟩;have hcc:(C:Int)<=(cap:Int):=by omega
 have hcc2:C<=cap:=by omega
 have HMIN:∀ (W:World) ts tt,(Builtin.min_ ts tt #[.int .i64 (l.length:Int),.int .i64 1024]).run Tryz.prog W=.ok (.int .i64 (C:Int)) W:=fun W ts tt=>by
  rw[run_min_int2];congr 2;rw[hC];split <;> omega
 generalize l.length=n0 at HMIN |-
 clear hv hC hl hcap;go_enter Tryz.func26,Tryz.ntmps26;go_wp2;go_ret2;exact⟨rfl,Below.refl _ _⟩
theorem nWrite15_big(p:Value){w:World}{v:Value}{l:List Int}(hv:BSl w v l)(hl:(l.length:Int)<=9223372036854775807){a:Int}(ha:¬ a<0){C:Nat}(hC:C=min l.length 1024)(hb:35328<a+C):
 Calls Tryz.prog 26 #[p,.int .i64 a,v] w fun e w'=>e=.returned (.tuple #[.int .i64 0,.int .i64 14])/\Below w.heap.size w w':=by
 obtain⟨ao,cap,rfl,hcap⟩:=hv.shape;have hcc:(C:Int)<=(cap:Int):=by omega
 have hcc2:C<=cap:=by omega
 have HMIN:∀ (W:World) ts tt,(Builtin.min_ ts tt #[.int .i64 (l.length:Int),.int .i64 1024]).run Tryz.prog W=.ok (.int .i64 (C:Int)) W:=fun W ts tt=>by
  rw[run_min_int2];congr 2;rw[hC];split <;> omega
 obtain⟨D,hD⟩:∃ D,D=35328-C:=⟨_,rfl⟩;have g1:IntKind.i64.wrap (35328-(C:Int))=(D:Int):=by rw[IntWalk.i64_in _ (by omega)];omega
 have g2:(D:Int)<a:=by omega
 generalize l.length=n0 at HMIN |-
 clear hv hC hl hcap hb hD;go_enter Tryz.func26,Tryz.ntmps26;go_wp2;go_ret2;exact⟨rfl,Below.refl _ _⟩
theorem nResize15_neg(p:Value){w:World}{n:Int}(hn:n<0):Calls Tryz.prog 27 #[p,.int .i64 n] w fun e w'=>e=.returned (.int .i64 1)/\Below w.heap.size w w':=by
 go_enter Tryz.func27,Tryz.ntmps27;go_wp2;go_ret;exact⟨rfl,Below.refl _ _⟩
theorem nResize15_big(p:Value){w:World}{n:Int}(hn:35328<n):Calls Tryz.prog 27 #[p,.int .i64 n] w fun e w'=>e=.returned (.int .i64 14)/\Below w.heap.size w w':=by
 have h0:¬ n<0:=by omega
 go_enter Tryz.func27,Tryz.ntmps27;go_wp2;go_ret;exact⟨rfl,Below.refl _ _⟩
def mixB(M:Nat->Option (List Int))(n k:Nat):Nat->Option (List Int):=fun i=>if i<k then rsB M n i else M i
theorem mixB_at(M:Nat->Option (List Int))(n k:Nat):mixB M n k k=M k:=if_neg (Nat.lt_irrefl k)
theorem mixB_same{M:Nat->Option (List Int)}{n k:Nat}(h:rsB M n k=M k):mixB M n (k+1)=mixB M n k:=by
 funext i;unfold mixB;by_cases e:i=k
 . subst e;rw[if_pos (Nat.lt_succ_self i),if_neg (Nat.lt_irrefl i),h]
 . by_cases c:i<k
   . rw[if_pos c,if_pos (by omega)]
   . rw[if_neg c,if_neg (by omega)]
theorem mixB_drop{M:Nat->Option (List Int)}{n k:Nat}(h:n<=256*k):(fun j=>if j=k then none else mixB M n k j)=mixB M n (k+1):=by
 funext i;unfold mixB;by_cases e:i=k
 . subst e;rw[if_pos rfl,if_pos (Nat.lt_succ_self i)];unfold rsB;rw[if_pos h]
 . rw[if_neg e]
   by_cases c:i<k
   . rw[if_pos c,if_pos (by omega)]
   . rw[if_neg c,if_neg (by omega)]
theorem mixB_put{M:Nat->Option (List Int)}{n k:Nat}{l:List Int}(hm:M k=some l)(h:¬ n<=256*k)(h2:n<256*k+256):updB (mixB M n k) k (l.take (n-256*k) ++ List.replicate (256-(n-256*k)) 0)=mixB M n (k+1):=by
 funext i;unfold mixB;by_cases e:i=k
 . subst e;rw[Zcn,if_pos (Nat.lt_succ_self i)];unfold rsB;rw[if_neg h,hm,Option.map_some,if_pos h2]
 . rw[Zbu _ e]
   by_cases c:i<k
   . rw[if_pos c,if_pos (by omega)]
   . rw[if_neg c,if_neg (by omega)]
theorem mixB_end{M:Nat->Option (List Int)}{n:Nat}(h:∀ i,(M i).isSome=true->i<138):mixB M n 138=rsB M n:=by
 funext i;unfold mixB;by_cases c:i<138
 . rw[if_pos c]
 . rw[if_neg c]
   have:M i=none:=by
    cases e:M i
    . rfl
    . exact absurd (h i (by rw[e];rfl)) c
   unfold rsB;rw[this];split <;> rfl
section
variable {w:World}{bn bp sz:Nat}{M:Nat->Option (List Int)}
set_option maxHeartbeats 2000000 in
theorem nResize15_of(h:NodeB w bn bp sz M){n:Nat}(hn:n<=35328):
 Calls Tryz.prog 27 #[.pointer (some ⟨bn,0,none⟩),.int .i64 n] w fun e w'=>e=.returned (.int .i64 0)/\NodeB w' bn bp n (rsB M n)/\Chg (NP bn bp) (NP bn bp) w w':=by
 have g0:¬ (n:Int)<0:=by omega
 have g1:¬ (35328:Int)<(n:Int):=by omega
 have HN:=hid h;have HHI:=hid (fun i (hi:(M i).isSome=true)=>h.hi hi);have HOK:=hid h.ok;have HNN:Hid (n<=35328):=hid hn;clear h hn;go_enter Tryz.func27,Tryz.ntmps27;go_wp2;clear g0 g1;go_loopw [14] (fun i wr=>∃ k:Nat,k<=138/\i=.int .i64 k/\NodeB wr bn bp sz (mixB M n k)/\Chg (NP bn bp) (NP bn bp) w wr) (fun i _=>138-(intOf i).toNat)
 case atStart=>exact⟨0,Nat.zero_le _,rfl,HN.out,Chg.refl _ _⟩
 case round=>
  obtain⟨k,hk,rfl,hn,hc⟩:=hrel;by_cases hlt:k<138
  . have hs:=hn.look hlt
    have c3:=hn.c3;have HND:=hid hn;have HC:=hid hc;have ek:(k:Int)<138:=by omega
    obtain⟨k1,hk1⟩:∃ k1,k1=k+1:=⟨_,rfl⟩;have q1:IntKind.i64.wrap ((k:Int)+1)=(k1:Int):=by rw[IntWalk.i64_in _ (by omega)];omega
    obtain⟨m,hm⟩:∃ m,m=256*k:=⟨_,rfl⟩;have q2:IntKind.i64.wrap (256*(k:Int))=(m:Int):=by rw[IntWalk.i64_in _ (by omega)];omega
    have HK1:Hid (k1=k+1/\k1<=138):=hid (by omega);rw[mixB_at] at hs;cases hM:M k
    . have HE:Hid (mixB M n k1=mixB M n k):=hid (by rw[hk1];exact mixB_same (by unfold rsB;rw[hM];split <;> rfl))
      rw[hM] at hs;generalize strOfNums ((none:Option (List Int)).getD [])=st at hs;replace hs:(Instr.lookup 50 (.map (some bp)) (.int .i64 k) true).run Tryz.prog wr=.ok (.tuple #[.string st,.bool false]) wr:=hs;clear hn hc hM hk1 hm hk hlt;go_wp2;go_roundw
      case rel=>exact⟨k1,HK1.out.2,rfl,by rw[HE.out];exact HND.out,HC.out⟩
      case measure=>have:=HK1.out;clear q1 q2;simp[intOf];omega
    . next l=>
      rw[hM] at hs;replace hs:(Instr.lookup 50 (.map (some bp)) (.int .i64 k) true).run Tryz.prog wr=.ok (.tuple #[.string (strOfNums l),.bool true]) wr:=hs;by_cases hA:n<=m
      . have HE:Hid ((fun j=>if j=k then none else mixB M n k j)=mixB M n k1):=hid (by rw[hk1];exact mixB_drop (by omega))
        have eA:(n:Int)<=(m:Int):=by omega
        obtain⟨w5,hr5,hn5,hg5,hs5⟩:=hn.drop hlt 0;have HN5:=hid hn5;have HG5:=hid (hc.trans (NodeB.chg_put (bn:=bn) hg5));generalize strOfNums l=st at hs;clear hn hc hM hk1 hm hk hlt hA hn5 hg5 hs5;go_wp2;go_roundw
        case rel=>exact⟨k1,HK1.out.2,rfl,by rw[<- HE.out];exact HN5.out,HG5.out⟩
        case measure=>have:=HK1.out;clear q1 q2;simp[intOf];omega
      . by_cases hB:n<m+256
        . have hl:=(HOK.out).len k l hM
          have hby:=(HOK.out).byt k l hM;obtain⟨r,hr⟩:∃ r,r=n-m:=⟨_,rfl⟩;obtain⟨z,hz⟩:∃ z,z=256-r:=⟨_,rfl⟩;have q3:IntKind.i64.wrap ((n:Int)-(m:Int))=(r:Int):=by rw[IntWalk.i64_in _ (by have:=HNN.out;omega)];omega
          have q4:IntKind.i64.wrap (256-(r:Int))=(z:Int):=by rw[IntWalk.i64_in _ (by omega)];omega
          have eA:¬ (n:Int)<=(m:Int):=by omega
          have eB:(r:Int)<256:=by omega
          have HE:Hid (updB (mixB M n k) k (l.take r ++ List.replicate z 0)=mixB M n k1):=hid (by rw[hk1,hz,hr,hm];exact mixB_put hM (by omega) (by omega));have hpl:(l.take r ++ List.replicate z 0).length=256:=by rw[List.length_append,List.length_take,List.length_replicate];omega
          have hpb:Byt (l.take r ++ List.replicate z 0):=Zdc (Zbs hby r) (Zba z);have HPUT:=hid (fun(V:World) (hV:NodeB V bn bp sz (mixB M n k))=>hV.put hlt hpl hpb);have HSTR:Hid (∃ S1,(strOfNums l).extract 0 r=S1/\S1 ++ strOfNums (List.replicate z 0)=strOfNums (l.take r ++ List.replicate z 0)/\(S1.size:Int)<=256/\((strOfNums (List.replicate z 0)).size:Int)<=256/\(r:Int)<=((strOfNums l).size:Int)):=hid (by
           refine⟨_,rfl,?_,?_,?_,?_⟩
           . rw[Zea,Zjp,List.drop_zero,Nat.sub_zero]
           . rw[Zea,strOfNums_size,List.length_take];omega
           . rw[strOfNums_size,List.length_replicate];omega
           . rw[strOfNums_size];omega)
          have HZ:=hid (fun(V:World)=>zeros15_of V z (by omega));generalize strOfNums (List.replicate z 0)=SZ at*
          generalize l.take r ++ List.replicate z 0=T at*
          generalize strOfNums l=SB at*
          obtain⟨S1,he1,he2,hz1,hz2,hz3⟩:=HSTR.out;obtain⟨SF,hSF⟩:∃ SF,SF=strOfNums T:=⟨_,rfl⟩;rw[<- hSF] at he2;have a1:∀ W,(Op.stringOp .add S1 SZ).run Tryz.prog W=.ok (.string SF) W:=fun W=>by rw[run_string_add W _ _ (by omega) (by omega),he2]
          have HSF:=hid hSF;clear hn hc hM hk1 hm hk hlt hA hB hr hz hl hby hpl hpb HSTR hz1 hz2 hSF HHI HN;go_upto_region 12 with(fail)
          have KZ:=hid (HZ.out wr.drew);have hnd:NodeB wr.drew bn bp sz (mixB M n k):=HND.out.keep rfl rfl;have HDD:=hid hnd;have c0:=hnd.c3;clear hnd hs c3
          go_region_held3 (fun V=>V.cell? ⟨bn,3,none⟩=some (.map (some bp))) (first|exact c0|exact c5|exact c6) (
           (go_at_call 49;(with_reducible refine KZ.out.mono ?_)
            rintro e w5 ⟨rfl,hb5⟩;have hn5:=HDD.out.low hb5;have c5:=hn5.c3;obtain⟨w6,hr6,hn6,hg6,hs6⟩:=HPUT.out _ hn5;have c6:=hn6.c3;rw[<- HSF.out] at hr6))
          have HFIN:Hid (NodeB w6 bn bp sz (mixB M n k1)/\Chg (NP bn bp) (NP bn bp) w w6):=hid ⟨by rw[<- HE.out];exact hn6,HC.out.trans ((Chg.of_below (Zab (Below.refl _ _) 1:Below wr.heap.size wr wr.drew)).trans ((Chg.of_below hb5).trans (NodeB.chg_put (bn:=bn) hg6)))⟩;clear hn5 hn6 hg6 hs6 hb5 c5 c6 c0 hr6 a1 he1 he2 hz3 q2 q3 q4;go_wp2;go_roundw
          case rel=>exact⟨k1,HK1.out.2,rfl,HFIN.out.1,HFIN.out.2⟩
          case measure=>have:=HK1.out;clear q1;simp[intOf];omega
        . have HE:Hid (mixB M n k1=mixB M n k):=hid (by rw[hk1];exact mixB_same (by unfold rsB;rw[hM,if_neg (by omega),Option.map_some,if_neg (by omega)]))
          obtain⟨r,hr⟩:∃ r,r=n-m:=⟨_,rfl⟩;have q3:IntKind.i64.wrap ((n:Int)-(m:Int))=(r:Int):=by rw[IntWalk.i64_in _ (by have:=HNN.out;omega)];omega
          have eA:¬ (n:Int)<=(m:Int):=by omega
          have eB:¬ (r:Int)<256:=by omega
          generalize strOfNums l=st at hs;clear hn hc hM hk1 hm hk hlt hA hB hr;go_wp2;go_roundw
          case rel=>exact⟨k1,HK1.out.2,rfl,by rw[HE.out];exact HND.out,HC.out⟩
          case measure=>have:=HK1.out;clear q1 q2 q3;simp[intOf];omega
  . obtain rfl:k=138:=by omega
    have c2:=hn.c2;have hfr:=hn.fr 2;have HND:=hid hn;have HC:=hid hc;clear hn hc;go_wp2;go_ret;obtain⟨h5,h6⟩:=HND.out.size (s:=n) HNN.out;exact⟨rfl,by rw[mixB_end HHI.out] at h5;exact h5,HC.out.trans ⟨h6.1,h6.2.1,h6.2.2.1,Nat.le_of_eq h6.2.2.2.1.symm,fun k hk hn=>⟨h6.2.2.2.2 k (fun e=>hn (.inl e)),hn⟩⟩⟩
end
structure Cl (w0:World) (bf:Nat) (p:Value) (Φ:(Nat->Prop)->World->Prop):Prop where
 far:∀ {P w w' Z Z'},Φ P w->Chg Z Z' w w'->FarF w0 P bf Z->Φ P w'
 lt:∀ {P w},Φ P w->∀ x,P x->w0.heap.size<=x/\x<w.heap.size
 be:∀ {P w},Φ P w->Below w0.heap.size w0 w
 fs:∀ {P w},Φ P w->FsAt w bf p/\¬ P bf/\w0.heap.size<=bf
structure Nod2 (g n bn bp sz:Nat) (M:Nat->Option (List Int)) (m bm bpm sm:Nat) (Mm:Nat->Option (List Int)) (w:World):Prop where
 a:NodeB w bn bp sz M
 b:NodeB w bm bpm sm Mm
 cn:w.cell? ⟨g,n,none⟩=some (.pointer (some ⟨bn,0,none⟩))
 cm:w.cell? ⟨g,m,none⟩=some (.pointer (some ⟨bm,0,none⟩))
 gl:g<w.heap.size
 n1:bn≠bm
 n2:bn≠bpm
 n3:bp≠bm
 n4:bp≠bpm
 g1:g≠bn
 g2:g≠bp
 g3:g≠bm
 g4:g≠bpm
def N5(g bn bp bm bpm:Nat)(x:Nat):Prop:=x=bn\/x=bp\/x=bm\/x=bpm\/x=g
structure Sd (w0:World) (bf:Nat) (Φ:(Nat->Prop)->World->Prop) (K:Nat->Option Obj) (P:Nat->Prop) (g n bn bp sz:Nat) (M:Nat->Option (List Int)) (m bm bpm sm:Nat) (Mm:Nat->Option (List Int)) (w:World):Prop where
 ph:Φ P w
 nd:Nod2 g n bn bp sz M m bm bpm sm Mm w
 out:∀ x,N5 g bn bp bm bpm x->w0.heap.size<=x/\¬ P x/\x≠bf
 own:∀ x o,K x=some o->w.heap[x]? =some o/\¬ P x/\¬ N5 g bn bp bm bpm x/\w0.heap.size<=x/\x≠bf
section
variable {w0 w:World}{bf g n bn bp sz m bm bpm sm:Nat}{M Mm:Nat->Option (List Int)}{P:Nat->Prop}{p:Value}{Φ:(Nat->Prop)->World->Prop}{K:Nat->Option Obj}
theorem Nod2.lt(h:Nod2 g n bn bp sz M m bm bpm sm Mm w){x:Nat}(hx:N5 g bn bp bm bpm x):x<w.heap.size:=by
 have h1:=h.a.lt;have h2:=h.b.lt;have h3:=h.gl;rcases hx with rfl|rfl|rfl|rfl|rfl
 . exact h1.1
 . exact h1.2
 . exact h2.1
 . exact h2.2
 . exact h3
theorem Nod2.keep(h:Nod2 g n bn bp sz M m bm bpm sm Mm w){w':World}(hk:∀ x,N5 g bn bp bm bpm x->w'.heap[x]? =w.heap[x]?)(hs:w.heap.size<=w'.heap.size):Nod2 g n bn bp sz M m bm bpm sm Mm w':=
 { h with
   a:=h.a.keep (hk _ (.inl rfl)) (hk _ (.inr (.inl rfl)))
   b:=h.b.keep (hk _ (.inr (.inr (.inl rfl)))) (hk _ (.inr (.inr (.inr (.inl rfl)))))
   cn:=by rw[World.cell?_of_block (a:=⟨g,n,none⟩) (w:=w) (hk g (.inr (.inr (.inr (.inr rfl)))))];exact h.cn
   cm:=by rw[World.cell?_of_block (a:=⟨g,m,none⟩) (w:=w) (hk g (.inr (.inr (.inr (.inr rfl)))))];exact h.cm
   gl:=Nat.lt_of_lt_of_le h.gl hs }
theorem Nod2.swap(h:Nod2 g n bn bp sz M m bm bpm sm Mm w):Nod2 g m bm bpm sm Mm n bn bp sz M w:=
 ⟨h.b,h.a,h.cm,h.cn,h.gl,fun e=>h.n1 e.symm,fun e=>h.n3 e.symm,fun e=>h.n2 e.symm,fun e=>h.n4 e.symm,h.g3,h.g4,h.g1,h.g2⟩
theorem N5.swap{x:Nat}(h:N5 g bm bpm bn bp x):N5 g bn bp bm bpm x:=by unfold N5 at h |-;omega
theorem Nod2.set(h:Nod2 g n bn bp sz M m bm bpm sm Mm w){w':World}{bp' sz':Nat}{M':Nat->Option (List Int)}(ha:NodeB w' bn bp' sz' M')(hk:∀ x,x<w.heap.size->x≠bn->x≠bp->w'.heap[x]? =w.heap[x]?)(hs:w.heap.size<=w'.heap.size)(hb:bp'=bp\/(bp'≠bm/\bp'≠bpm/\bp'≠g)):Nod2 g n bn bp' sz' M' m bm bpm sm Mm w':=
 { h with
   a:=ha
   b:=h.b.keep (hk _ h.b.lt.1 (fun e=>h.n1 e.symm) (fun e=>h.n3 e.symm)) (hk _ h.b.lt.2 (fun e=>h.n2 e.symm) (fun e=>h.n4 e.symm))
   cn:=by rw[World.cell?_of_block (a:=⟨g,n,none⟩) (w:=w) (hk g h.gl h.g1 h.g2)];exact h.cn
   cm:=by rw[World.cell?_of_block (a:=⟨g,m,none⟩) (w:=w) (hk g h.gl h.g1 h.g2)];exact h.cm
   gl:=Nat.lt_of_lt_of_le h.gl hs
   n3:=by rcases hb with rfl|hb;exact h.n3;exact hb.1
   n4:=by rcases hb with rfl|hb;exact h.n4;exact hb.2.1
   g2:=by rcases hb with rfl|hb;exact h.g2;exact fun e=>hb.2.2 e.symm }
theorem Sd.low(hc:Cl w0 bf p Φ)(h:Sd w0 bf Φ K P g n bn bp sz M m bm bpm sm Mm w){w':World}(hb:Below w.heap.size w w'):Sd w0 bf Φ K P g n bn bp sz M m bm bpm sm Mm w':=
 ⟨hc.far h.ph (Chg.of_below (P:=fun _=>False) hb) ⟨fun x hx=>hx.elim,fun x _ hx=>hx,fun hx=>hx⟩,h.nd.keep (fun x hx=>hb.block x (h.nd.lt hx)) hb.size,h.out,fun x o ho=>by
   obtain⟨h1,h2⟩:=h.own x o ho;exact⟨by rw[hb.block x (Array.getElem?_eq_some_iff.1 h1).1];exact h1,h2⟩⟩
theorem Sd.fsy{Ψ:(Nat->Prop)->World->Prop}(h:Sd w0 bf Φ K P g n bn bp sz M m bm bpm sm Mm w){P':Nat->Prop}{w':World}(hp:Ψ P' w')(hc:Chg P P' w w'):Sd w0 bf Ψ K P' g n bn bp sz M m bm bpm sm Mm w':=by
 refine⟨hp,h.nd.keep (fun x hx=>(hc.keep x (h.nd.lt hx) (h.out x hx).2.1).1) hc.size,fun x hx=>?_,fun x o ho=>?_⟩
 . obtain⟨h1,h2,h3⟩:=h.out x hx
   exact⟨h1,(hc.keep x (h.nd.lt hx) h2).2,h3⟩
 . obtain⟨h1,h2,h3⟩:=h.own x o ho
   have:=hc.keep x (Array.getElem?_eq_some_iff.1 h1).1 h2;exact⟨this.1.trans h1,this.2,h3⟩
theorem Sd.node(hcl:Cl w0 bf p Φ)(h:Sd w0 bf Φ K P g n bn bp sz M m bm bpm sm Mm w){sz':Nat}{M':Nat->Option (List Int)}{w':World}(hn:NodeB w' bn bp sz' M')(hc:Chg (NP bn bp) (NP bn bp) w w'):Sd w0 bf Φ K P g n bn bp sz' M' m bm bpm sm Mm w':=by
 have hin:∀ x,NP bn bp x->N5 g bn bp bm bpm x:=fun x hx=>hx.elim .inl fun e=>.inr (.inl e)
 refine⟨hcl.far h.ph hc ⟨fun x hx=>(h.out x (hin x hx)).1,fun x hp hx=>(h.out x (hin x hx)).2.1 hp,fun hx=>(h.out bf (hin bf hx)).2.2 rfl⟩,h.nd.set hn (fun x hx e1 e2=>(hc.keep x hx (fun e=>e.elim e1 e2)).1) hc.size (.inl rfl),h.out,fun x o ho=>?_⟩;obtain⟨h1,h2,h3,h4⟩:=h.own x o ho;exact⟨(hc.keep x (Array.getElem?_eq_some_iff.1 h1).1 (fun e=>h3 (hin x e))).1.trans h1,h2,h3,h4⟩
theorem Sd.add(hcl:Cl w0 bf p Φ)(h:Sd w0 bf Φ K P g n bn bp sz M m bm bpm sm Mm w){V:World}(hb:Below w.heap.size w V){x:Nat}{o:Obj}(hx:w.heap.size<=x)(ho:V.heap[x]? =some o):Sd w0 bf Φ (fun y=>if y=x then some o else K y) P g n bn bp sz M m bm bpm sm Mm V:=by
 have hl:=h.low hcl hb;refine⟨hl.ph,hl.nd,hl.out,fun y u hu=>?_⟩;by_cases e:y=x
 . subst e
   rw[if_pos rfl] at hu;cases hu
   exact⟨ho,fun hp=>by have:=(hcl.lt h.ph y hp).2;omega,fun hn=>by have:=h.nd.lt hn;omega,Nat.le_trans (hcl.be h.ph).size hx,fun e=>by have:=(Array.getElem?_eq_some_iff.1 (hcl.fs h.ph).1).1;omega⟩
 . rw[if_neg e] at hu
   exact hl.own y u hu
theorem Sd.forget(h:Sd w0 bf Φ K P g n bn bp sz M m bm bpm sm Mm w):Sd w0 bf Φ (fun _=>none) P g n bn bp sz M m bm bpm sm Mm w:=⟨h.ph,h.nd,h.out,fun x o ho=>by cases ho⟩
end
section
variable (w0:World) (d p:Value) (kk bf n sz:Nat) (M:Nat->Option (List Int)) (m sm:Nat) (Mm:Nat->Option (List Int))
theorem Zjm:Cl w0 bf p (RestF w0 d p kk bf n sz M m sm Mm):=
 ⟨fun h hc hf=>h.far hc hf,fun⟨X,N,O,F,a,_⟩ x hx=>⟨a.pN x hx,a.inv.lt x hx⟩,fun⟨X,N,O,F,a,_⟩=>a.be,fun⟨X,N,O,F,a,_⟩=>⟨a.fs,a.nb,a.bN⟩⟩
theorem cl_ab:Cl w0 bf p (AbF w0 d p kk bf n sz M m sm Mm):=
 ⟨fun h hc hf=>h.far hc hf,fun⟨X,N,O,F,a,_⟩ x hx=>⟨a.pN x hx,a.inv.lt x hx⟩,fun⟨X,N,O,F,a,_⟩=>a.be,fun⟨X,N,O,F,a,_⟩=>⟨a.fs,a.nb,a.bN⟩⟩
theorem cl_mid:Cl w0 bf p (MidF w0 d p kk bf n sz M m sm Mm):=
 ⟨fun h hc hf=>h.far hc hf,fun⟨X,N,O,F,_,_,_,a,_⟩ x hx=>⟨a.pN x hx,a.inv.lt x hx⟩,fun⟨X,N,O,F,_,_,_,a,_⟩=>a.be,fun⟨X,N,O,F,_,_,_,a,_⟩=>⟨a.fs,a.nb,a.bN⟩⟩
theorem Zdy:Cl w0 bf p (StartF w0 d p kk bf n sz M m sm Mm):=
 ⟨fun⟨X,N,O,F,a,b,r⟩ hc hf=>⟨X,N,O,F,a.far hc hf.hi hf.ap hf.nf,b.farM hc hf.ap hf.nf,r⟩,fun⟨X,N,O,F,a,_⟩ x hx=>⟨a.pN x hx,a.inv.lt x hx⟩,fun⟨X,N,O,F,a,_⟩=>a.be,fun⟨X,N,O,F,a,_⟩=>⟨a.fs,a.nb,a.bN⟩⟩
end
def Rst(w0:World)(d p:Value)(kk bf g n m:Nat)(w:World):Prop:=∃ P bn bp sz M bm bpm sm Mm,Sd w0 bf (RestF w0 d p kk bf n sz M m sm Mm) (fun _=>none) P g n bn bp sz M m bm bpm sm Mm w
theorem Rst.swap{w0 w:World}{d p:Value}{kk bf g n m:Nat}(h:Rst w0 d p kk bf g n m w):Rst w0 d p kk bf g m n w:=by
 obtain⟨P,bn,bp,sz,M,bm,bpm,sm,Mm,h⟩:=h;exact⟨P,bm,bpm,sm,Mm,bn,bp,sz,M,⟨h.ph.swap,h.nd.swap,fun x hx=>h.out x hx.swap,fun x o ho=>by cases ho⟩⟩
section
variable {w:World}{bn bp sz:Nat}{M:Nat->Option (List Int)}
theorem nRead15_bad(p:Value){a m:Int}(h:a<0\/m<0):Calls Tryz.prog 16 #[p,.int .i64 a,.int .i64 m] w fun e w'=>e=.returned (.tuple #[.slice none 0 0,.int .i64 1])/\Below w.heap.size w w':=by
 by_cases ha:a<0
 . clear h
   go_enter Tryz.func16,Tryz.ntmps16;go_wp2;go_ret2;exact⟨rfl,Below.refl _ _⟩
 . have hm:m<0:=h.resolve_left ha
   clear h;go_enter Tryz.func16,Tryz.ntmps16;go_wp2;go_ret2;exact⟨rfl,Below.refl _ _⟩
set_option maxHeartbeats 1000000 in
theorem nRead15_of(h:NodeB w bn bp sz M){a m:Nat}(ha:(a:Int)<=9223372036854775807)(hm:(m:Int)<=9223372036854775807):
 Calls Tryz.prog 16 #[.pointer (some ⟨bn,0,none⟩),.int .i64 a,.int .i64 m] w fun e w'=>∃ v,e=.returned (.tuple #[v,.int .i64 0])/\OB w' w.heap.size v (rdB M a (min m (sz-a)))/\Below w.heap.size w w':=by
 have hsb:=h.sb;have HOK:=hid h.ok;obtain⟨K,hK⟩:∃ K,K=min m (sz-a):=⟨_,rfl⟩;rw[<- hK];have KB:=hid (fun(V:World) (hV:Below w.heap.size w V) i (hi:i<138)=>nBlock15_of (h.low hV) hi);have KC:=hid (fun(V:World) (hV:Below w.heap.size w V)=>(h.low hV).c2);have e1:(0:Int)<=(a:Int):=by omega
 have e2:(0:Int)<=(m:Int):=by omega
 have HK:=hid hK;have HA:=hid ha;have HM:=hid hm;clear h hK ha hm;go_enter Tryz.func16,Tryz.ntmps16;go_wp2;go_loopw [1,2,8] (fun x y o wr=>Below w.heap.size w wr/\∃ d:Nat,d<=K/\x=.int .i64 ((a+d:Nat):Int)/\y=.int .i64 ((m-d:Nat):Int)/\OB wr w.heap.size o (rdB M a d)) (fun _ y _ _=>(intOf y).toNat)
 case atStart=>exact⟨Below.refl _ _,0,Nat.zero_le _,by go_num,by go_num,Zfb,World.ownsRow_nil _ _ _ _⟩
 case round=>
  obtain⟨hb,d,hd,rfl,rfl,ho⟩:=hrel;have hK:=HK.out;have c2:=KC.out wr hb;by_cases hlt:d<K
  . obtain⟨s,hs⟩:∃ s,s=a+d:=⟨_,rfl⟩
    obtain⟨r,hr⟩:∃ r,r=m-d:=⟨_,rfl⟩;obtain⟨t,ht⟩:∃ t,t=sz-s:=⟨_,rfl⟩;obtain⟨q,hq⟩:∃ q,q=s / 256:=⟨_,rfl⟩;obtain⟨f,hf⟩:∃ f,f=s%256:=⟨_,rfl⟩;have hf2:f<256:=by omega
    obtain⟨c,hc⟩:∃ c,c=256-f:=⟨_,rfl⟩;obtain⟨p,hp⟩:∃ p,p=min c (min t r):=⟨_,rfl⟩;have HMIN:∀ (W:World) ts tt,(Builtin.min_ ts tt #[.int .i64 (c:Int),.int .i64 (t:Int),.int .i64 (r:Int)]).run Tryz.prog W=.ok (.int .i64 (p:Int)) W:=fun W ts tt=>by
     rw[run_min_int3];congr 2;rw[hp];split <;> split at* <;> omega
    have hrm:(r:Int)<=9223372036854775807:=by have:=HM.out;omega
    have g1:(s:Int)<sz:=by omega
    have g2:(0:Int)<(r:Int):=by omega
    have q1:((s:Int)).tdiv 256=q:=by rw[Int.tdiv_eq_ediv_of_nonneg (by omega),hq];omega
    have q2:((s:Int)).tmod 256=f:=by rw[Int.tmod_eq_emod_of_nonneg (by omega),hf];omega
    have q3:IntKind.i64.wrap (256-(f:Int))=(c:Int):=by rw[IntWalk.i64_in _ (by omega)];omega
    have q4:IntKind.i64.wrap ((sz:Int)-(s:Int))=(t:Int):=by rw[IntWalk.i64_in _ (by omega)];omega
    have q5:IntKind.i64.wrap ((f:Int)+(p:Int))=((f+p:Nat):Int):=by rw[IntWalk.i64_in _ (by omega)];omega
    have q6:IntKind.i64.wrap ((s:Int)+(p:Int))=((s+p:Nat):Int):=by rw[IntWalk.i64_in _ (by omega)];omega
    have q7:IntKind.i64.wrap ((r:Int)-(p:Int))=((r-p:Nat):Int):=by rw[IntWalk.i64_in _ (by omega)];omega
    have HQ8:Hid (wrap64 (q:Int)=(q:Int)):=hid (by unfold wrap64;omega);have KB2:=hid (KB.out wr hb q (by omega));have hbl:=(HOK.out).blk q;have hpl:f+p<=(bkB M q).length:=by rw[hbl.1];omega
    have hex:(strOfNums (bkB M q)).extract f (f+p)=strOfNums (((bkB M q).drop f).take p):=by rw[Zea,show f+p-f=p by omega]
    have hmore:rdB M a (d+p)=rdB M a d ++ ((bkB M q).drop f).take p:=by rw[rdB_more,<- hs,rdB_block HOK.out (n:=p) (a:=s) (i:=q) (o:=f) (by omega) (by omega)]
    have hby:Byt (((bkB M q).drop f).take p):=Zbs (Zkr hbl.2 f) p;have hpn:(((bkB M q).drop f).take p).length=p:=by simp;omega
    have HB:=hid hby;have HMORE:=hid hmore;have hdl:(rdB M a d).length=d:=Zle M a d;have HDL:=hid hdl;have HPN:=hid hpn;generalize bkB M q=B at*
    generalize ((B.drop f).take p)=T at*
    have HP:=hid hp;have HD:Hid (d+p<=K/\0<p/\p<=256/\s=a+d/\r=m-d/\d<K/\K<=35328/\p<=r):=hid (by omega);have HT:=hid ht;have HLE:Hid ((rdB M a d).length+((strOfNums B).extract f (f+p)).size<=1000000):=hid (by rw[hex,strOfNums_size,hdl,hpn];omega);have HEX:Hid (strB ((strOfNums B).extract f (f+p))=T):=hid (by rw[hex,strB_strOf hby]);have g3:f+p<=(strOfNums B).size:=by rw[strOfNums_size];omega
    have g4:((f+p:Nat):Int)<=((strOfNums B).size:Int):=by omega
    have g5:(f:Int)<=((f+p:Nat):Int):=by omega
    have g6:(f:Int)+(p:Int)<=((strOfNums B).size:Int):=by omega
    clear hex hrm hc hs hr ht hq hf hp hK hbl hpl hmore hby hpn hlt hdl hd;rw[<- (show s=a+d from HD.out.2.2.2.1),<- (show r=m-d from HD.out.2.2.2.2.1)];have q8:=HQ8.out
    go_wp2_with (first
     |(go_at_call 35;(with_reducible refine KB2.out.mono ?_)
       rintro e w3 ⟨rfl,hb3⟩;have ho3:=ho.below hb3;have hbb:=hb.trans (hb3.mono hb.size);replace c2:=KC.out w3 hbb)
     |(at_builtin
       refine Zku w3 rfl (.tmp 42) (.tmp 50) rfl w.heap.size _ (rdB M a d) rfl ho3 ((strOfNums B).extract f (f+p)) rfl HLE.out hbb.size ?_;intro v5 w5 ho5 hb5;rw[HEX.out,<- HMORE.out] at ho5;have hbf:=hbb.trans hb5))
    go_roundw
    case rel=>exact⟨hbf,d+p,HD.out.1,by clear q8;have:=HD.out;go_num,by clear q8;have:=HD.out;go_num,ho5⟩
    case measure=>clear q8;have:=HD.out;simp[intOf];omega
  . obtain rfl:d=K:=by omega
    have h0:((a+d:Nat):Int)<sz->((m-d:Nat):Int)<=0:=fun _=>by omega
    clear hK HK HA HM KB KC;by_cases hc:((a+d:Nat):Int)<sz
    . have h1:¬ ((0:Int)<((m-d:Nat):Int)):=by have:=h0 hc;omega
      clear h0;generalize ((a+d:Nat):Int)=s at*
      generalize ((m-d:Nat):Int)=r at*
      go_wp2;go_ret2;exact⟨_,rfl,ho,hb⟩
    . clear h0
      generalize ((a+d:Nat):Int)=s at*
      generalize ((m-d:Nat):Int)=r at*
      go_wp2;go_ret2;exact⟨_,rfl,ho,hb⟩
end
end Go.Proofs.YtedabomlfcghoaaGreat
