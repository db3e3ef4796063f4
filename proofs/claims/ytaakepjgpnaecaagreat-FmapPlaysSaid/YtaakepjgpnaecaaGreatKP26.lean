/- What the law rests on: part 26. -/
import Derived.Test.YtaakepjgpnaecaaGreatKP25
set_option linter.unusedVariables false
namespace Go.Proofs.YtaakepjgpnaecaaGreat
set_option maxRecDepth 100000
open Go.RowKit BM
theorem farK_one {K:List Int}:∀ k,(∃ b:Nat,10<=b/\b<k/\(b:Int)∈K)->farK K k=1
 |0,⟨b,_,h,_⟩=>absurd h (Nat.not_lt_zero _)
 |k+1,⟨b,h1,h2,h3⟩=>by
  unfold farK
  split
  · rfl
  · next hn=>
    refine farK_one k ⟨b,h1,?_,h3⟩
    have:b≠k:=fun e=>hn ⟨e ▸ h3,e ▸ h1⟩
    omega
theorem farK_zero {K:List Int}:∀ k,(¬ ∃ b:Nat,10<=b/\b<k/\(b:Int)∈K)->farK K k=0
 |0,_=>rfl
 |k+1,h=>by
  unfold farK
  rw[if_neg (fun e=>h ⟨k,e.2,by omega,e.1⟩)]
  exact farK_zero k fun ⟨b,h1,h2,h3⟩=>h ⟨b,h1,by omega,h3⟩
theorem memK_ne {K:List Int}{i:Nat}:memK K i≠0 ↔ (i:Int)∈K:=by
 unfold memK
 by_cases h:(i:Int)∈K
 · rw[if_pos h];exact ⟨fun _=>h,fun _=>by decide⟩
 · rw[if_neg h];exact ⟨fun e=>absurd rfl e,fun e=>absurd e h⟩
theorem usedN_congr {K K':List Int} (h:∀ x,x∈K' ↔ x∈K):usedN K'=usedN K:=by
 unfold usedN
 have h1:cntX (memK K') 138=cntX (memK K) 138:=cntX_same 138 fun i _=>by rw[memK_ne,memK_ne,h]
 have h2:farK K' 138=farK K 138:=by
  by_cases hf:∃ b:Nat,10<=b/\b<138/\(b:Int)∈K
  · rw[farK_one 138 hf]
    obtain ⟨b,a1,a2,a3⟩:=hf
    exact farK_one 138 ⟨b,a1,a2,(h _).2 a3⟩
  · rw[farK_zero 138 hf]
    exact farK_zero 138 fun ⟨b,a1,a2,a3⟩=>hf ⟨b,a1,a2,(h _).1 a3⟩
 rw[h1,h2]
structure Fk (x F:List Int) (K:List Int):Prop where
 lc:∀ b:Nat,b<138->(locX x F b≠0 ↔ (b:Int)∈K)
 mp:num x 13≠0 ↔ ∃ b:Nat,10<=b/\b<138/\(b:Int)∈K
theorem Fk.used {x F K:List Int} (h:Fk x F K):usedX x F=usedN K:=by
 unfold usedX usedN
 rw[cntX,cntX_same (f:=locX x F) (g:=memK K) 138 fun i hi=>by rw[h.lc i hi,memK_ne],locX_map]
 congr 1
 by_cases hf:∃ b:Nat,10<=b/\b<138/\(b:Int)∈K
 · rw[if_pos (h.mp.2 hf),farK_one 138 hf]
 · rw[if_neg (fun e=>hf (h.mp.1 e)),farK_zero 138 hf]
theorem Fk.congr {x F K K':List Int} (h:Fk x F K) (hk:∀ y,y∈K' ↔ y∈K):Fk x F K':=
 ⟨fun b hb=>by rw[h.lc b hb,hk],by rw[h.mp];exact ⟨fun ⟨b,a1,a2,a3⟩=>⟨b,a1,a2,(hk _).2 a3⟩,fun ⟨b,a1,a2,a3⟩=>⟨b,a1,a2,(hk _).1 a3⟩⟩⟩
def updK (Ks:Nat->List Int) (n:Nat) (K:List Int):Nat->List Int:=fun a=>if a=n then K else Ks a
theorem updK_at (Ks:Nat->List Int) (n:Nat) (K:List Int):updK Ks n K n=K:=if_pos rfl
theorem updK_ne (Ks:Nat->List Int) {n m:Nat} (h:m≠n) (K:List Int):updK Ks n K m=Ks m:=if_neg h
theorem totM_upd_lt (Ks:Nat->List Int) {n:Nat} (K:List Int):∀ c,c<=n->totM (updK Ks n K) c=totM Ks c
 |0,_=>rfl
 |c+1,h=>by rw[totM,totM,totM_upd_lt Ks K c (by omega),updK_ne _ (by omega)]
theorem totM_upd (Ks:Nat->List Int) {n:Nat} (K:List Int):∀ c,n<c->totM (updK Ks n K) c+usedN (Ks n)=totM Ks c+usedN K
 |0,h=>absurd h (Nat.not_lt_zero _)
 |c+1,h=>by
  rw[totM,totM]
  by_cases e:c=n
  · subst e;rw[totM_upd_lt Ks K c (Nat.le_refl _),updK_at];omega
  · have:=totM_upd Ks (n:=n) K c (by omega)
    rw[updK_ne _ e];omega
structure Mr (N:List (List Int)) (O:List (Int × Int)) (kk:Nat) (F:Nat->List Int) (Ks:Nat->List Int) (lim:Int):Prop where
 kd:∀ n,n<48->(kindN N n≠0 ↔ 1<=n/\n<=5)
 l1:∀ b,b<139->locX (N.getD 1 []) (F 1) b=0
 fk:∀ n,2<=n->n<=5->Fk (N.getD n []) (F n) (Ks n)
 cn:cntU O (64*kk)=6+totM Ks 6
 lm:lim=62*(kk:Int)-48
 le:(totM Ks 6:Int)<=lim
section
variable {X X':XSt}{S:List Int}{N N':List (List Int)}{O O':List (Int × Int)}{kk:Nat}{F F':Nat->List Int}{Ks:Nat->List Int}{lim:Int}{n i:Nat}{Q:List Int}{v:Int}
theorem Mr.congr (h:Mr N O kk F Ks lim) (hn:n<6) {K:List Int} (hk:∀ y,y∈K ↔ y∈Ks n):Mr N O kk F (updK Ks n K) lim:=by
 have ht:=totM_upd Ks (n:=n) K 6 hn
 rw[usedN_congr hk] at ht
 refine ⟨h.kd,h.l1,fun m h2 h5=>?_,by rw[h.cn];omega,h.lm,by have:=h.le;omega⟩
 by_cases e:m=n
 · subst e;rw[updK_at];exact (h.fk m h2 h5).congr hk
 · rw[updK_ne _ e];exact h.fk m h2 h5
theorem Mr.need (h:Mr N O kk F Ks lim) (h2:2<=n) (h5:n<=5) (hi:i<138) (h0:locX (N.getD n []) (F n) i=0):totM (updK Ks n (addS (Ks n) i)) 6=totM Ks 6+needM (num (N.getD n []) 13) i:=by
 have ht:=totM_upd Ks (n:=n) (addS (Ks n) i) 6 (by omega)
 have hf:=h.fk n h2 h5
 have hni:¬ (i:Int)∈Ks n:=fun e=>(hf.lc i hi).2 e h0
 have h1:cntX (memK (addS (Ks n) i)) 138=cntX (memK (Ks n)) 138+1:=cntX_more (i:=i) (by
  apply Classical.byContradiction;intro e;exact hni (memK_ne.1 e)) (memK_ne.2 (addS_iff.2 (.inr rfl))) 138 hi fun j hj hne=>by
  rw[memK_ne,memK_ne,addS_iff]
  exact ⟨fun e=>.inl e,fun e=>e.resolve_right (by omega)⟩
 have h3:farK (addS (Ks n) i) 138+1=farK (Ks n) 138+needM (num (N.getD n []) 13) i:=by
  unfold needM
  by_cases hm:num (N.getD n []) 13=0
  · have hz:¬ ∃ b:Nat,10<=b/\b<138/\(b:Int)∈Ks n:=fun e=>(hf.mp.2 e) hm
    rw[farK_zero 138 hz]
    by_cases h10:10<=i
    · rw[if_pos ⟨h10,hm⟩,farK_one 138 ⟨i,h10,hi,addS_iff.2 (.inr rfl)⟩]
    · have hz2:¬ ∃ b:Nat,10<=b/\b<138/\(b:Int)∈addS (Ks n) i:=by
       rintro ⟨b,a1,a2,a3⟩
       rcases addS_iff.1 a3 with e|e
       · exact hz ⟨b,a1,a2,e⟩
       · omega
      rw[if_neg (fun e=>h10 e.1),farK_zero 138 hz2]
  · rw[if_neg (fun e=>hm e.2)]
    have hz:=hf.mp.1 hm
    obtain ⟨b,a1,a2,a3⟩:=hz
    rw[farK_one 138 ⟨b,a1,a2,a3⟩,farK_one 138 ⟨b,a1,a2,addS_iff.2 (.inl a3)⟩]
 unfold usedN at ht
 omega
theorem Mr.map (h:Mr N O kk F Ks lim) (h2:2<=n) (h5:n<=5) (hi:i<138) (h0:locX (N.getD n []) (F n) i=0) (hr:MapR X S N O kk F n i Q v X' N' O' F') (hle:(totM (updK Ks n (addS (Ks n) i)) 6:Int)<=lim):Mr N' O' kk F' (updK Ks n (addS (Ks n) i)) lim:=by
 have hf:=h.fk n h2 h5
 have hf':Fk (N'.getD n []) (F' n) (addS (Ks n) i):=by
  refine ⟨fun b hb=>?_,?_⟩
  · rw[hr.loc b hb,addS_iff]
    by_cases e:b=i
    · rw[if_pos e];exact ⟨fun _=>.inr (by omega),fun _=>by have:=hr.v0;omega⟩
    · rw[if_neg e,hf.lc b hb];exact ⟨.inl,fun h=>h.resolve_right (by omega)⟩
  · rw[hr.mp,hf.mp]
    constructor
    · rintro (⟨b,a1,a2,a3⟩|e)
      · exact ⟨b,a1,a2,addS_iff.2 (.inl a3)⟩
      · exact ⟨i,e,hi,addS_iff.2 (.inr rfl)⟩
    · rintro ⟨b,a1,a2,a3⟩
      rcases addS_iff.1 a3 with e|e
      · exact .inl ⟨b,a1,a2,e⟩
      · exact .inr (by omega)
 refine ⟨fun m hm=>?_,fun b hb=>?_,fun m m2 m5=>?_,?_,h.lm,hle⟩
 · by_cases e:m=n
   · subst e;rw[kind_num,hr.st.hd 0 (by decide),<- kind_num];exact h.kd m hm
   · rw[kind_num,(hr.st.oth m e).1,<- kind_num];exact h.kd m hm
 · rw[(hr.st.oth 1 (by omega)).1,(hr.st.oth 1 (by omega)).2];exact h.l1 b hb
 · by_cases e:m=n
   · subst e;rw[updK_at];exact hf'
   · rw[updK_ne _ e,(hr.st.oth m e).1,(hr.st.oth m e).2];exact h.fk m m2 m5
 · have h1:=hr.st.cnt
   rw[hf.used,hf'.used,h.cn] at h1
   have h3:=totM_upd Ks (n:=n) (addS (Ks n) i) 6 (by omega)
   omega
theorem Mr.cut {a:Nat} (h:Mr N O kk F Ks lim) (h2:2<=n) (h5:n<=5) (hr:CutR X S N O kk F n a Q X' N' O' F') {K:List Int} (hK:∀ x,x∈K ↔ x∈Ks n/\x<(a:Int)) (hbd:∀ x∈Ks n,0<=x/\x<138):Mr N' O' kk F' (updK Ks n K) lim:=by
 have hf:=h.fk n h2 h5
 have hl:∀ b,b<138->(locX (N'.getD n []) (F' n) b≠0 ↔ (b:Int)∈K):=fun b hb=>by
  rw[hr.loc b hb,hK]
  by_cases e:a<=b
  · rw[if_pos e];exact ⟨fun e=>absurd rfl e,fun e2=>by omega⟩
  · rw[if_neg e,hf.lc b hb];exact ⟨fun e2=>⟨e2,by omega⟩,fun e2=>e2.1⟩
 have hf':Fk (N'.getD n []) (F' n) K:=by
  refine ⟨hl,?_⟩
  rw[hr.mp]
  constructor
  · rintro ⟨_,b,a1,a2,a3⟩;exact ⟨b,a1,a2,(hl b a2).1 a3⟩
  · rintro ⟨b,a1,a2,a3⟩;exact ⟨hf.mp.2 ⟨b,a1,a2,((hK _).1 a3).1⟩,b,a1,a2,(hl b a2).2 a3⟩
 have h1:=hr.st.cnt
 rw[hf.used,hf'.used,h.cn] at h1
 have h3:=totM_upd Ks (n:=n) K 6 (by omega)
 have hle:usedN K<=usedN (Ks n):=by
  unfold usedN
  have c1:∀ k,cntX (memK K) k<=cntX (memK (Ks n)) k:=fun k=>by
   induction k with
   |zero=>exact Nat.le_refl _
   |succ k ih=>
    unfold cntX
    by_cases e:memK K k≠0
    · rw[if_pos e,if_pos (memK_ne.2 ((hK _).1 (memK_ne.1 e)).1)];omega
    · rw[if_neg e];omega
  have c2:farK K 138<=farK (Ks n) 138:=by
   by_cases e:∃ b:Nat,10<=b/\b<138/\(b:Int)∈K
   · obtain ⟨b,a1,a2,a3⟩:=e
     rw[farK_one 138 ⟨b,a1,a2,a3⟩,farK_one 138 ⟨b,a1,a2,((hK _).1 a3).1⟩];exact Nat.le_refl _
   · rw[farK_zero 138 e];exact Nat.zero_le _
  have:=c1 138
  omega
 refine ⟨fun m hm=>?_,fun b hb=>?_,fun m m2 m5=>?_,by omega,h.lm,by have:=h.le;omega⟩
 · by_cases e:m=n
   · subst e;rw[kind_num,hr.st.hd 0 (by decide),<- kind_num];exact h.kd m hm
   · rw[kind_num,(hr.st.oth m e).1,<- kind_num];exact h.kd m hm
 · rw[(hr.st.oth 1 (by omega)).1,(hr.st.oth 1 (by omega)).2];exact h.l1 b hb
 · by_cases e:m=n
   · subst e;rw[updK_at];exact hf'
   · rw[updK_ne _ e,(hr.st.oth m e).1,(hr.st.oth m e).2];exact h.fk m m2 m5
end
theorem obj_ne {w:World}{a b:Nat}{x y:Obj} (hx:w.heap[a]? =some x) (hy:w.heap[b]? =some y) (h:x≠y):a≠b:=fun e=>h (by rw[e,hy] at hx;exact (Option.some.inj hx).symm)
theorem cells_ne {c d:Array Value}{s t:TypeId}{y z:Nat × Nat} (h:c.size≠d.size):Obj.cells c s y≠Obj.cells d t z:=fun e=>by
 have:=congrArg (fun o=>match o with |Obj.cells cs _ _=>cs.size|_=>0) e
 exact h this
def OpAt (w:World) (xb:Nat) (kd no io vo:Int):Prop:=w.heap[xb]? =some (.cells #[.int .i64 kd,.int .i64 no,.int .i64 io,.int .i64 vo] 45 (0,0))
theorem OpAt.cells {w:World}{xb:Nat}{kd no io vo:Int} (h:OpAt w xb kd no io vo):w.cell? ⟨xb,0,none⟩=some (.int .i64 kd)/\w.cell? ⟨xb,1,none⟩=some (.int .i64 no)/\w.cell? ⟨xb,2,none⟩=some (.int .i64 io)/\w.cell? ⟨xb,3,none⟩=some (.int .i64 vo):=
 ⟨by rw[cell_of_row _ _ _ _ _ _ h];rfl,by rw[cell_of_row _ _ _ _ _ _ h];rfl,by rw[cell_of_row _ _ _ _ _ _ h];rfl,by rw[cell_of_row _ _ _ _ _ _ h];rfl⟩
structure Pd (w0 w:World) (P:Nat->Prop) (d p:Value) (X:XSt) (S:List Int) (N:List (List Int)) (O:List (Int × Int)) (kk:Nat) (F:Nat->List Int) (bf bm:Nat) (bn bp:Nat->Nat) (Ks:Nat->List Int) (lim:Int) (xb:Nat) (kd no io vo:Int):Prop where
 sm:Fsm w0 w P d p X S N O kk F bf
 md:Md w bm bn bp Ks lim
 ap:∀ k,Mob bm bn bp k->¬ P k/\w0.heap.size<=k
 bx:OpAt w xb kd no io vo
 nx:¬ P xb
structure Ps (w0 w:World) (P:Nat->Prop) (d p:Value) (X:XSt) (S:List Int) (N:List (List Int)) (O:List (Int × Int)) (kk:Nat) (F:Nat->List Int) (bf bm:Nat) (bn bp:Nat->Nat) (Ks:Nat->List Int) (lim:Int):Prop where
 sd:Fsd w0 w P d p X S N O kk F bf
 md:Md w bm bn bp Ks lim
 ap:∀ k,Mob bm bn bp k->¬ P k/\w0.heap.size<=k
 mr:Mr N O kk F Ks lim
section
variable {w0 w:World}{P:Nat->Prop}{d p:Value}{X:XSt}{S:List Int}{N N2:List (List Int)}{O O2:List (Int × Int)}{kk:Nat}{F F2:Nat->List Int}{bf bm:Nat}{bn bp:Nat->Nat}{Ks:Nat->List Int}{lim:Int}{xb:Nat}{kd no io vo:Int}
theorem rowM_size (bn:Nat->Nat) (c:Nat) (lim:Int):(rowM bn c lim).toArray.size=7:=rfl
theorem Md.ne_fs (h:Md w bm bn bp Ks lim) (hf:FsAt w bf p) {k:Nat} (hk:Mob bm bn bp k):k≠bf:=by
 rcases hk with rfl| ⟨i,hi,rfl|rfl⟩
 · exact obj_ne h.row hf (cells_ne (by rw[rowM_size];simp))
 · obtain ⟨ao,cap,a,_⟩:=h.nd i hi
   exact obj_ne a hf (cells_ne (by simp))
 · exact (h.nd i hi).map.not_cells hf
theorem Md.ne_op (h:Md w bm bn bp Ks lim) (hx:OpAt w xb kd no io vo) {k:Nat} (hk:Mob bm bn bp k):k≠xb:=by
 rcases hk with rfl| ⟨i,hi,rfl|rfl⟩
 · exact obj_ne h.row hx (cells_ne (by rw[rowM_size];simp))
 · obtain ⟨ao,cap,a,_⟩:=h.nd i hi
   exact obj_ne a hx (cells_ne (by simp))
 · exact (h.nd i hi).map.not_cells hx
theorem Md.bp_ne (h:Md w bm bn bp Ks lim) {n:Nat} (hn:n<6):bp n≠bm/\∀ i,i<6->bp n≠bn i:=by
 refine ⟨(h.nd n hn).map.not_cells h.row,fun i hi=>?_⟩
 obtain ⟨ao,cap,a,_⟩:=h.nd i hi
 exact (h.nd n hn).map.not_cells a
theorem Ps.begin (h:Ps w0 w P d p X S N O kk F bf bm bn bp Ks lim) (hx:OpAt w xb kd no io vo) (nx:¬ P xb):Calls Tryz.prog 14 #[p] w fun e w'=>e=.returned (.int .i64 0)/\∃ P',Pd w0 w' P' d p (callX X) S N O kk F bf bm bn bp Ks lim xb kd no io vo/\Fmd w' P' d p (callX X) S N O kk F bf:=by
 refine h.sd.begin.mono ?_
 rintro e w' ⟨he,P',hs,hm,hg⟩
 obtain ⟨m1,m2⟩:=h.md.chg hg fun k hk=>(h.ap k hk).1
 have hk:=hg.keep xb (Array.getElem?_eq_some_iff.1 hx).1 nx
 exact ⟨he,P',⟨hs,m1,fun k hk=>⟨m2 k hk,(h.ap k hk).2⟩,hk.1.trans hx,hk.2⟩,hm⟩
theorem Ps.low (h:Ps w0 w P d p X S N O kk F bf bm bn bp Ks lim) {w':World} (hb:Below w.heap.size w w'):Ps w0 w' P d p X S N O kk F bf bm bn bp Ks lim:=⟨h.sd.low hb,h.md.low hb,h.ap,h.mr⟩
theorem Pd.store (h:Pd w0 w P d p X S N O kk F bf bm bn bp Ks lim xb kd no io vo) {w':World}{P':Nat->Prop}{X':XSt} (hi:SInv w' P' d p X') (hw:X'.wi=true) (ho:Onw X X') (hg:Chg P P' w w'):Pd w0 w' P' d p X' S N O kk F bf bm bn bp Ks lim xb kd no io vo:=by
 obtain ⟨m1,m2⟩:=h.md.chg hg fun k hk=>(h.ap k hk).1
 have hk:=hg.keep xb (Array.getElem?_eq_some_iff.1 h.bx).1 h.nx
 exact ⟨h.sm.next hi hw ho hg,m1,fun k hk=>⟨m2 k hk,(h.ap k hk).2⟩,hk.1.trans h.bx,hk.2⟩
theorem Pd.low (h:Pd w0 w P d p X S N O kk F bf bm bn bp Ks lim xb kd no io vo) {w':World} (hb:Below w.heap.size w w'):Pd w0 w' P d p X S N O kk F bf bm bn bp Ks lim xb kd no io vo:=
 h.store (h.sm.inv.low hb) h.sm.wi (Onw.refl _) (Chg.of_below hb)
theorem Pd.keep (h:Pd w0 w P d p X S N O kk F bf bm bn bp Ks lim xb kd no io vo) (hm:Fmd w P d p X S N2 O2 kk F2 bf) (hr:Mr N2 O2 kk F2 Ks lim):Calls Tryz.prog 19 #[p,.bool true] w fun e w'=>e=.returned (.int .i64 0)/\∃ P' X',Ps w0 w' P' d p X' S N2 O2 kk F2 bf bm bn bp Ks lim:=by
 refine (h.sm.keep hm).mono ?_
 rintro e w' ⟨he,P',X',hf,_,hg⟩
 obtain ⟨m1,m2⟩:=h.md.chg hg fun k hk=>(h.ap k hk).1
 exact ⟨he,P',X',hf,m1,fun k hk=>⟨m2 k hk,(h.ap k hk).2⟩,hr⟩
theorem Pd.undo (h:Pd w0 w P d p X S N O kk F bf bm bn bp Ks lim xb kd no io vo) (hr:Mr N O kk F Ks lim):Calls Tryz.prog 19 #[p,.bool false] w fun e w'=>e=.returned (.int .i64 0)/\∃ P' X',Ps w0 w' P' d p X' S N O kk F bf bm bn bp Ks lim:=by
 refine h.sm.undo.mono ?_
 rintro e w' ⟨he,P',X',hf,_,hg⟩
 obtain ⟨m1,m2⟩:=h.md.chg hg fun k hk=>(h.ap k hk).1
 exact ⟨he,P',X',hf,m1,fun k hk=>⟨m2 k hk,(h.ap k hk).2⟩,hr⟩
theorem Pd.model (h:Pd w0 w P d p X S N O kk F bf bm bn bp Ks lim xb kd no io vo) {b:Nat} (hb:Mob bm bn bp b) {w':World} (hg:Chg (·=b) (·=b) w w') {bn' bp':Nat->Nat}{Ks':Nat->List Int} (hm:Md w' bm bn' bp' Ks' lim) (ha:∀ k,Mob bm bn' bp' k->¬ P k/\w0.heap.size<=k):
 Pd w0 w' P d p X S N O kk F bf bm bn' bp' Ks' lim xb kd no io vo/\(∀ {N2:List (List Int)} {O2:List (Int × Int)} {F2:Nat->List Int},Fmd w P d p X S N2 O2 kk F2 bf->Fmd w' P d p X S N2 O2 kk F2 bf):=by
 have hP:∀ x,P x->¬ x=b:=fun x hx e=>(h.ap b hb).1 (e ▸ hx)
 have hf:¬ bf=b:=fun e=>h.md.ne_fs h.sm.fs hb e.symm
 have hx:=hg.keep xb (Array.getElem?_eq_some_iff.1 h.bx).1 (fun e=>h.md.ne_op h.bx hb e.symm)
 exact ⟨⟨h.sm.far hg (fun x e=>by rw[e];exact (h.ap b hb).2) hP hf,hm,ha,hx.1.trans h.bx,h.nx⟩,fun hm2=>hm2.farM hg hP hf⟩
theorem chg_grown {w w':World}{b:Nat} (h:w.grownBy w' (some b)):Chg (·=b) (·=b) w w':=⟨h.os,h.tape,h.output,h.size,fun k hk hn=>⟨h.block k hk (fun e=>hn (Option.some.inj e)),hn⟩⟩
theorem Md.part (h:Md w bm bn bp Ks lim) {n:Nat} (hn:n<6) {w':World}{K:List Int} (hg:w.grownBy w' (some (bp n))) (hN:NodeR w' (bn n) (bp n) K):Md w' bm bn bp (updK Ks n K) lim:=by
 obtain ⟨h1,h2⟩:=h.bp_ne hn
 have hk:∀ k,k<w.heap.size->k≠bp n->w'.heap[k]? =w.heap[k]? :=fun k hk hne=>hg.block k hk (fun e=>hne (Option.some.inj e))
 refine ⟨(hk bm h.lt (Ne.symm h1)).trans h.row,fun i hi=>?_,h.inj⟩
 by_cases e:i=n
 · subst e;rw[updK_at];exact hN
 · rw[updK_ne _ e]
   exact (h.nd i hi).keep (hk _ (h.nd i hi).lt.1 (Ne.symm (h2 i hi))) (hk _ (h.nd i hi).lt.2 (h.inj i n hi hn e))
theorem Pd.put (h:Pd w0 w P d p X S N O kk F bf bm bn bp Ks lim xb kd no io vo) {n i:Nat} (hn:n<6) (hi:i<138) (s:ByteArray):
 ∃ w',(Instr.mapUpdate 67 (.map (some (bp n))) (.int .i64 i) (.string s)).run Tryz.prog w=.ok () w'/\Pd w0 w' P d p X S N O kk F bf bm bn bp (updK Ks n (addS (Ks n) i)) lim xb kd no io vo/\
   (∀ {N2:List (List Int)} {O2:List (Int × Int)} {F2:Nat->List Int},Fmd w P d p X S N2 O2 kk F2 bf->Fmd w' P d p X S N2 O2 kk F2 bf)/\w.grownBy w' (some (bp n)):=by
 obtain ⟨w',hr,hN,hg,_⟩:=(h.md.nd n hn).put hi s
 obtain ⟨h1,h2⟩:=h.model (b:=bp n) (.inr ⟨n,hn,.inr rfl⟩) (chg_grown hg) (h.md.part hn hg hN) h.ap
 exact ⟨w',hr,h1,h2,hg⟩
theorem Pd.drop (h:Pd w0 w P d p X S N O kk F bf bm bn bp Ks lim xb kd no io vo) {n i:Nat} (hn:n<6) (hi:i<138) (ty:TypeId):
 ∃ w',(Builtin.delete_ #[67,3] ty #[.map (some (bp n)),.int .i64 i]).run Tryz.prog w=.ok (.tuple #[]) w'/\Pd w0 w' P d p X S N O kk F bf bm bn bp (updK Ks n ((Ks n).erase i)) lim xb kd no io vo/\
   (∀ {N2:List (List Int)} {O2:List (Int × Int)} {F2:Nat->List Int},Fmd w P d p X S N2 O2 kk F2 bf->Fmd w' P d p X S N2 O2 kk F2 bf):=by
 have hnd:=h.md.nd n hn
 have hne:=hnd.ne
 obtain ⟨ao,cap,a,b,c⟩:=hnd
 obtain ⟨w',hr,hm,hg,_⟩:=b.drop (wf_nat hi) ty
 have hN:NodeR w' (bn n) (bp n) ((Ks n).erase i):=⟨ao,cap,(hg.block (bn n) (Array.getElem?_eq_some_iff.1 a).1 (fun e=>hne (Option.some.inj e).symm)).trans a,hm,fun x hx=>c x (List.mem_of_mem_erase hx)⟩
 obtain ⟨h1,h2⟩:=h.model (b:=bp n) (.inr ⟨n,hn,.inr rfl⟩) (chg_grown hg) (h.md.part hn hg hN) h.ap
 exact ⟨w',hr,h1,h2⟩
theorem Pd.node (h:Pd w0 w P d p X S N O kk F bf bm bn bp Ks lim xb kd no io vo) {n b c:Nat} (hn:n<6) {K:List Int} (hN:NodeR w b c K) (hb:¬ P b/\w0.heap.size<=b) (hc:¬ P c/\w0.heap.size<=c) (hnew:∀ i,i<6->i≠n->c≠bp i):
 Pd w0 (w.setCell ⟨bm,n,none⟩ (.pointer (some ⟨b,0,none⟩))) P d p X S N O kk F bf bm (updN bn n b) (updN bp n c) (updK Ks n K) lim xb kd no io vo/\
  (∀ {N2:List (List Int)} {O2:List (Int × Int)} {F2:Nat->List Int},Fmd w P d p X S N2 O2 kk F2 bf->Fmd (w.setCell ⟨bm,n,none⟩ (.pointer (some ⟨b,0,none⟩))) P d p X S N2 O2 kk F2 bf):=by
 have hw:=Wrote.setCell w bm n (.pointer (some ⟨b,0,none⟩))
 have hbm:∀ i,i<6->bn i≠bm:=fun i hi=>by
  obtain ⟨ao,cap,a,_⟩:=h.md.nd i hi
  exact obj_ne a h.md.row (cells_ne (by rw[rowM_size];simp))
 have hbb:b≠bm:=by
  obtain ⟨ao,cap,a,_⟩:=hN
  exact obj_ne a h.md.row (cells_ne (by rw[rowM_size];simp))
 have hcb:c≠bm:=hN.map.not_cells h.md.row
 refine h.model (b:=bm) (.inl rfl) (Chg.of_wrote1 hw) ⟨?_,fun i hi=>?_,fun i j hi hj hne=>?_⟩ fun k hk=>?_
 · rw[heap_setCell_same w bm n _ _ _ h.md.row]
   simp only[List.setIfInBounds_toArray]
   rw[rowM_upd _ _ hn]
 · unfold updN updK
   by_cases e:i=n
   · rw[if_pos e,if_pos e,if_pos e];exact hN.keep (hw.2.2.2.2 _ hbb) (hw.2.2.2.2 _ hcb)
   · rw[if_neg e,if_neg e,if_neg e];exact (h.md.nd i hi).keep (hw.2.2.2.2 _ (hbm i hi)) (hw.2.2.2.2 _ (h.md.bp_ne hi).1)
 · unfold updN
   by_cases e1:i=n
   · rw[if_pos e1,if_neg (by omega)];exact hnew j hj (by omega)
   · rw[if_neg e1]
     by_cases e2:j=n
     · rw[if_pos e2];exact Ne.symm (hnew i hi e1)
     · rw[if_neg e2];exact h.md.inj i j hi hj hne
 · rcases hk with rfl| ⟨i,hi,hk⟩
   · exact h.ap _ (.inl rfl)
   · unfold updN at hk
     by_cases e:i=n
     · rw[if_pos e,if_pos e] at hk
       rcases hk with rfl|rfl
       · exact hb
       · exact hc
     · rw[if_neg e,if_neg e] at hk
       exact h.ap k (.inr ⟨i,hi,hk⟩)
end
section
variable {w0 w:World}{P:Nat->Prop}{d p:Value}{X:XSt}{S:List Int}{N:List (List Int)}{O:List (Int × Int)}{kk:Nat}{F:Nat->List Int}{bf bm:Nat}{bn bp:Nat->Nat}{Ks:Nat->List Int}{lim:Int}{xb:Nat}{kd no io vo:Int}
def PdE (w0:World) (d p:Value) (S:List Int) (N:List (List Int)) (O:List (Int × Int)) (kk:Nat) (F:Nat->List Int) (bf bm:Nat) (bn bp:Nat->Nat) (Ks:Nat->List Int) (lim:Int) (xb:Nat) (kd no io vo:Int) (w':World):Prop:=∃ P' X',Pd w0 w' P' d p X' S N O kk F bf bm bn bp Ks lim xb kd no io vo
theorem baseQ_le {S:List Int}{n:Nat}{mp:Int} (h:kk<=12):(baseQ S kk n mp).length<=34:=by rw[baseQ_len];omega
theorem openAt_no (hm:Fmd w P d p X S N O kk F bf) (mr:Mr N O kk F Ks lim) (hno:¬ (1<=no/\no<=5/\0<=io/\io<=137)):Calls Tryz.prog 36 #[.pointer (some ⟨bf,0,none⟩),.int .i64 no,.int .i64 io] w fun e w'=>e=.returned (.tuple #[.pointer none,.int .i64 1])/\Below w.heap.size w w':=by
 have hc:Tab X.cur S N:=by rw[hm.cur];exact hm.pl.tab
 by_cases h1:no<1\/47<no
 · exact fmOpenAt_bad h1 _ io w
 · obtain ⟨n,rfl⟩:∃ n:Nat,no=n:=⟨no.toNat,by omega⟩
   by_cases h5:n<=5
   · exact fmOpenAt_out hm.inv hm.fs hc (by omega) (by omega) ((mr.kd n (by omega)).2 (by omega)) (by omega) (Below.refl _ _)
   · exact fmOpenAt_free hm.inv hm.fs hc (by omega) (by omega) (Classical.byContradiction fun e=>h5 ((mr.kd n (by omega)).1 e).2) io (Below.refl _ _)
theorem openAll_no (hm:Fmd w P d p X S N O kk F bf) (mr:Mr N O kk F Ks lim) (hno:¬ (1<=no/\no<=5)):Calls Tryz.prog 45 #[.pointer (some ⟨bf,0,none⟩),.int .i64 no] w fun e w'=>e=.returned (.tuple #[.pointer none,.int .i64 1])/\Below w.heap.size w w':=by
 have hc:Tab X.cur S N:=by rw[hm.cur];exact hm.pl.tab
 by_cases h1:no<1\/47<no
 · exact fmOpenAll_bad h1 _ w
 · obtain ⟨n,rfl⟩:∃ n:Nat,no=n:=⟨no.toNat,by omega⟩
   exact fmOpenAll_free hm.inv hm.fs hc (by omega) (by omega) (Classical.byContradiction fun e=>by have:=(mr.kd n (by omega)).1 e;omega) (Below.refl _ _)
theorem do_set_no (h:Pd w0 w P d p X S N O kk F bf bm bn bp Ks lim xb kd no io vo) (hm:Fmd w P d p X S N O kk F bf) (mr:Mr N O kk F Ks lim) (hno:¬ (2<=no/\no<=5/\0<=io/\io<=137/\1<=vo/\vo<768/\io∈Ks no.toNat)):
 Calls Tryz.prog 31 #[.pointer (some ⟨bf,0,none⟩),.int .i64 no,.int .i64 io,.int .i64 vo] w fun e w'=>e=.returned (.int .i64 1)/\PdE w0 d p S N O kk F bf bm bn bp Ks lim xb kd no io vo w':=by
 by_cases h1:1<=no/\no<=5/\0<=io/\io<=137
 · obtain ⟨n,hn⟩:∃ n:Nat,no=n:=⟨no.toNat,by omega⟩
   obtain ⟨i,hi⟩:∃ i:Nat,io=i:=⟨io.toNat,by omega⟩
   have:=fmSet_no hm (n:=n) (i:=i) (v:=vo) (by omega) (by omega) ((mr.kd n (by omega)).2 (by omega)) (by omega) (by
    by_cases v1:vo<1
    · exact .inl v1
    · by_cases v2:768<=vo
      · exact .inr (.inl v2)
      · refine .inr (.inr (Classical.byContradiction fun hne=>hno ?_))
        by_cases n1:n=1
        · subst n1;exact absurd (mr.l1 i (by omega)) hne
        · refine ⟨by omega,by omega,by omega,by omega,by omega,by omega,?_⟩
          rw[hn,hi,Int.toNat_natCast]
          exact ((mr.fk n (by omega) (by omega)).lc i (by omega)).1 hne)
   rw[<- hn,<- hi] at this
   exact this.mono fun e w' ⟨he,P',hm',hg⟩=>⟨he,P',X,h.store hm'.inv hm'.wi (Onw.refl _) hg⟩
 · exact (fmSet_bad (v:=vo) (R:=fun w'=>Below w.heap.size w w') (openAt_no hm mr h1)).mono fun e w' ⟨he,hb⟩=>⟨he,P,X,h.low hb⟩
theorem do_set_ok (h:Pd w0 w P d p (callX X) S N O kk F bf bm bn bp Ks lim xb kd no io vo) (hm:Fmd w P d p (callX X) S N O kk F bf) (mr:Mr N O kk F Ks lim) (h2:2<=no) (h5:no<=5) (h0:0<=io) (h137:io<=137) (v1:1<=vo) (v2:vo<768) (hin:io∈Ks no.toNat):
 Calls Tryz.prog 31 #[.pointer (some ⟨bf,0,none⟩),.int .i64 no,.int .i64 io,.int .i64 vo] w fun e w'=>e=.returned (.int .i64 0)/\PdE w0 d p S N O kk F bf bm bn bp Ks lim xb kd no io vo w':=by
 obtain ⟨n,hn⟩:∃ n:Nat,no=n:=⟨no.toNat,by omega⟩
 obtain ⟨i,hi⟩:∃ i:Nat,io=i:=⟨io.toNat,by omega⟩
 have hl:locX (N.getD n []) (F n) i≠0:=((mr.fk n (by omega) (by omega)).lc i (by omega)).2 (by rw[hn,hi,Int.toNat_natCast] at hin;exact hin)
 have:=fmSet_yes hm (n:=n) (i:=i) (v:=vo) (by omega) (by omega) ((mr.kd n (by omega)).2 (by omega)) (by omega) v1 v2 hl (by show (0:Nat)<37;decide)
 rw[<- hn,<- hi] at this
 exact this.mono fun e w' ⟨he,P',X',hi',hw,ho,hg⟩=>⟨he,P',X',h.store hi' hw ho hg⟩
theorem do_map_idle (h:Pd w0 w P d p (callX X) S N O kk F bf bm bn bp Ks lim xb kd no io vo) (hm:Fmd w P d p (callX X) S N O kk F bf) (mr:Mr N O kk F Ks lim) (hno:¬ (2<=no/\no<=5/\0<=io/\io<=137)):
 Calls Tryz.prog 15 #[.pointer (some ⟨bf,0,none⟩),.int .i64 no,.int .i64 io] w fun e w'=>∃ v E:Int,e=.returned (.tuple #[.int .i64 v,.int .i64 E])/\(E=1\/(no=1/\(E=0\/E=13)))/\PdE w0 d p S N O kk F bf bm bn bp Ks lim xb kd no io vo w':=by
 by_cases h1:1<=no/\no<=5/\0<=io/\io<=137
 · obtain ⟨i,hi⟩:∃ i:Nat,io=i:=⟨io.toNat,by omega⟩
   have hn:no=((1:Nat):Int):=by omega
   have hl:=mr.l1 i (by omega)
   have hk:=(mr.kd 1 (by decide)).2 (by decide)
   have h12:=hm.pl.ok.k12
   by_cases hr:(cntU O (64*kk):Int)+(needM (num (N.getD 1 []) 13) i:Int)<=62*(kk:Int)-42
   · have:=fmMap_new (n:=1) (i:=i) (Q:=baseQ S kk 1 (num (N.getD 1 []) 13)) hm (by decide) (by decide) hk (by omega) hl (put_none _ _) (baseQ_le h12) (baseQ_ok _ _ _ _) hr
     rw[<- hn,<- hi] at this
     exact this.mono fun e w' ⟨v,P',X',N',O',F',he,hm',hr',hg⟩=>⟨v,0,he,.inr ⟨by omega,.inl rfl⟩,P',X',h.store hm'.inv hm'.wi hr'.on hg⟩
   · have:=fmMap_full (n:=1) (i:=i) (Q:=baseQ S kk 1 (num (N.getD 1 []) 13)) hm (by decide) (by decide) hk (by omega) hl (put_none _ _) (baseQ_le h12) (baseQ_ok _ _ _ _) (by omega)
     rw[<- hn,<- hi] at this
     exact this.mono fun e w' ⟨he,P',X',N',O',hm',ho,hg⟩=>⟨0,13,he,.inr ⟨by omega,.inr rfl⟩,P',X',h.store hm'.inv hm'.wi ho hg⟩
 · exact (fmMap_bad (R3:=fun w'=>Below w.heap.size w w') (openAt_no hm mr h1)).mono fun e w' ⟨he,hb⟩=>⟨0,1,he,.inl rfl,P,_,h.low hb⟩
theorem do_cut_idle (h:Pd w0 w P d p (callX X) S N O kk F bf bm bn bp Ks lim xb kd no io vo) (hm:Fmd w P d p (callX X) S N O kk F bf) (mr:Mr N O kk F Ks lim) (hx:io<=9223372036854775807) (hno:¬ (2<=no/\no<=5/\0<=io)):
 Calls Tryz.prog 17 #[.pointer (some ⟨bf,0,none⟩),.int .i64 no,.int .i64 io] w fun e w'=>∃ E:Int,e=.returned (.int .i64 E)/\(E=1\/(no=1/\E=0))/\PdE w0 d p S N O kk F bf bm bn bp Ks lim xb kd no io vo w':=by
 by_cases h1:1<=no/\no<=5
 · obtain ⟨n,hn⟩:∃ n:Nat,no=n:=⟨no.toNat,by omega⟩
   have hk:=(mr.kd n (by omega)).2 (by omega)
   by_cases h0:io<0
   · have:=fmCut_neg hm (n:=n) (by omega) (by omega) hk h0
     rw[<- hn] at this
     exact this.mono fun e w' ⟨he,P',hm',hg⟩=>⟨1,he,.inl rfl,P',_,h.store hm'.inv hm'.wi (Onw.refl _) hg⟩
   · obtain ⟨i,hi⟩:∃ i:Nat,io=i:=⟨io.toNat,by omega⟩
     have h12:=hm.pl.ok.k12
     have:=fmCut_of hm (n:=n) (a:=i) (Q:=baseQ S kk n (num (N.getD n []) 13)) (by omega) (by omega) hk (by omega) (put_none _ _) (by have:=baseQ_le (S:=S) (n:=n) (mp:=num (N.getD n []) 13) h12;omega) (baseQ_ok _ _ _ _)
     rw[<- hn,<- hi] at this
     exact this.mono fun e w' ⟨he,P',X',N',O',F',hm',hr,hg⟩=>⟨0,he,.inr ⟨by omega,rfl⟩,P',X',h.store hm'.inv hm'.wi hr.on hg⟩
 · exact (fmCut_bad (fr:=io) (R:=fun w'=>Below w.heap.size w w') (openAll_no hm mr h1)).mono fun e w' ⟨he,hb⟩=>⟨1,he,.inl rfl,P,_,h.low hb⟩
theorem do_cut_ok (h:Pd w0 w P d p (callX X) S N O kk F bf bm bn bp Ks lim xb kd no io vo) (hm:Fmd w P d p (callX X) S N O kk F bf) (mr:Mr N O kk F Ks lim) (hx:io<=9223372036854775807) (h2:2<=no) (h5:no<=5) (h0:0<=io):
 Calls Tryz.prog 17 #[.pointer (some ⟨bf,0,none⟩),.int .i64 no,.int .i64 io] w fun e w'=>e=.returned (.int .i64 0)/\∃ P' X' N' O' F',Pd w0 w' P' d p X' S N O kk F bf bm bn bp Ks lim xb kd no io vo/\Fmd w' P' d p X' S N' O' kk F' bf/\∀ K,(∀ x,x∈K ↔ x∈Ks no.toNat/\x<io)->Mr N' O' kk F' (updK Ks no.toNat K) lim:=by
 obtain ⟨n,hn⟩:∃ n:Nat,no=n:=⟨no.toNat,by omega⟩
 obtain ⟨i,hi⟩:∃ i:Nat,io=i:=⟨io.toNat,by omega⟩
 have hk:=(mr.kd n (by omega)).2 (by omega)
 have h12:=hm.pl.ok.k12
 have hnn:no.toNat=n:=by omega
 have:=fmCut_of hm (n:=n) (a:=i) (Q:=baseQ S kk n (num (N.getD n []) 13)) (by omega) (by omega) hk (by omega) (put_none _ _) (by have:=baseQ_le (S:=S) (n:=n) (mp:=num (N.getD n []) 13) h12;omega) (baseQ_ok _ _ _ _)
 rw[<- hn,<- hi] at this
 refine this.mono ?_
 rintro e w' ⟨he,P',X',N',O',F',hm',hr,hg⟩
 refine ⟨he,P',X',N',O',F',h.store hm'.inv hm'.wi hr.on hg,hm',fun K hK=>?_⟩
 rw[hnn] at hK |-
 rw[hi] at hK
 exact mr.cut (by omega) (by omega) hr hK (h.md.nd n (by omega)).bd
theorem do_map_was (h:Pd w0 w P d p (callX X) S N O kk F bf bm bn bp Ks lim xb kd no io vo) (hm:Fmd w P d p (callX X) S N O kk F bf) (mr:Mr N O kk F Ks lim) (h2:2<=no) (h5:no<=5) (h0:0<=io) (h137:io<=137) (hin:io∈Ks no.toNat):
 Calls Tryz.prog 15 #[.pointer (some ⟨bf,0,none⟩),.int .i64 no,.int .i64 io] w fun e w'=>∃ v:Int,e=.returned (.tuple #[.int .i64 v,.int .i64 0])/\0<v/\∃ P',Pd w0 w' P' d p (callX X) S N O kk F bf bm bn bp Ks lim xb kd no io vo/\Fmd w' P' d p (callX X) S N O kk F bf:=by
 obtain ⟨n,hn⟩:∃ n:Nat,no=n:=⟨no.toNat,by omega⟩
 obtain ⟨i,hi⟩:∃ i:Nat,io=i:=⟨io.toNat,by omega⟩
 have hl:locX (N.getD n []) (F n) i≠0:=((mr.fk n (by omega) (by omega)).lc i (by omega)).2 (by rw[hn,hi,Int.toNat_natCast] at hin;exact hin)
 have hbd:=locX_bd (hm.pl.tab.n.frm n (by omega)) (hm.pl.fi.fl n) (i:=i) (by omega)
 have:=fmMap_old hm (n:=n) (i:=i) (by omega) (by omega) ((mr.kd n (by omega)).2 (by omega)) (by omega) hl
 rw[<- hn,<- hi] at this
 exact this.mono fun e w' ⟨he,hm',hg⟩=>⟨_,he,by omega,P,h.store hm'.inv hm'.wi (Onw.refl _) hg,hm'⟩
theorem do_map_ok (h:Pd w0 w P d p (callX X) S N O kk F bf bm bn bp Ks lim xb kd no io vo) (hm:Fmd w P d p (callX X) S N O kk F bf) (mr:Mr N O kk F Ks lim) (h2:2<=no) (h5:no<=5) (h0:0<=io) (h137:io<=137) (hin:io ∉ Ks no.toNat) (hle:(totM (updK Ks no.toNat (addS (Ks no.toNat) io)) 6:Int)<=lim):
 Calls Tryz.prog 15 #[.pointer (some ⟨bf,0,none⟩),.int .i64 no,.int .i64 io] w fun e w'=>∃ v:Int,e=.returned (.tuple #[.int .i64 v,.int .i64 0])/\0<v/\∃ P' X' N' O' F',Pd w0 w' P' d p X' S N O kk F bf bm bn bp Ks lim xb kd no io vo/\Fmd w' P' d p X' S N' O' kk F' bf/\Mr N' O' kk F' (updK Ks no.toNat (addS (Ks no.toNat) io)) lim:=by
 obtain ⟨n,hn⟩:∃ n:Nat,no=n:=⟨no.toNat,by omega⟩
 obtain ⟨i,hi⟩:∃ i:Nat,io=i:=⟨io.toNat,by omega⟩
 have hnn:no.toNat=n:=by omega
 have hl:locX (N.getD n []) (F n) i=0:=Classical.byContradiction fun e=>hin (by rw[hnn,hi];exact ((mr.fk n (by omega) (by omega)).lc i (by omega)).1 e)
 have h12:=hm.pl.ok.k12
 have hnd:=mr.need (n:=n) (i:=i) (by omega) (by omega) (by omega) hl
 rw[hnn] at hle |-
 have hle':=hle
 rw[hi] at hle'
 have:=fmMap_new (n:=n) (i:=i) (Q:=baseQ S kk n (num (N.getD n []) 13)) hm (by omega) (by omega) ((mr.kd n (by omega)).2 (by omega)) (by omega) hl (put_none _ _) (baseQ_le h12) (baseQ_ok _ _ _ _) (by
  have h1:=mr.cn
  have h3:=mr.lm
  rw[hnd] at hle'
  rw[h1]
  push_cast at hle' |-
  omega)
 rw[<- hn,<- hi] at this
 refine this.mono ?_
 rintro e w' ⟨v,P',X',N',O',F',he,hm',hr,hg⟩
 have hmr:=mr.map (by omega) (by omega) (by omega) hl hr hle'
 rw[<- hi] at hmr
 exact ⟨v,he,hr.v0,P',X',N',O',F',h.store hm'.inv hm'.wi hr.on hg,hm',hmr⟩
theorem do_map_no (h:Pd w0 w P d p (callX X) S N O kk F bf bm bn bp Ks lim xb kd no io vo) (hm:Fmd w P d p (callX X) S N O kk F bf) (mr:Mr N O kk F Ks lim) (h2:2<=no) (h5:no<=5) (h0:0<=io) (h137:io<=137) (hin:io ∉ Ks no.toNat) (hle:¬ (totM (updK Ks no.toNat (addS (Ks no.toNat) io)) 6:Int)<=lim):
 Calls Tryz.prog 15 #[.pointer (some ⟨bf,0,none⟩),.int .i64 no,.int .i64 io] w fun e w'=>e=.returned (.tuple #[.int .i64 0,.int .i64 13])/\PdE w0 d p S N O kk F bf bm bn bp Ks lim xb kd no io vo w':=by
 obtain ⟨n,hn⟩:∃ n:Nat,no=n:=⟨no.toNat,by omega⟩
 obtain ⟨i,hi⟩:∃ i:Nat,io=i:=⟨io.toNat,by omega⟩
 have hnn:no.toNat=n:=by omega
 have hl:locX (N.getD n []) (F n) i=0:=Classical.byContradiction fun e=>hin (by rw[hnn,hi];exact ((mr.fk n (by omega) (by omega)).lc i (by omega)).1 e)
 have h12:=hm.pl.ok.k12
 have hnd:=mr.need (n:=n) (i:=i) (by omega) (by omega) (by omega) hl
 rw[hnn,hi] at hle
 have:=fmMap_full (n:=n) (i:=i) (Q:=baseQ S kk n (num (N.getD n []) 13)) hm (by omega) (by omega) ((mr.kd n (by omega)).2 (by omega)) (by omega) hl (put_none _ _) (baseQ_le h12) (baseQ_ok _ _ _ _) (by
  have h1:=mr.cn
  have h3:=mr.lm
  rw[hnd] at hle
  rw[h1]
  push_cast at hle |-
  omega)
 rw[<- hn,<- hi] at this
 exact this.mono fun e w' ⟨he,P',X',N',O',hm',ho,hg⟩=>⟨he,P',X',h.store hm'.inv hm'.wi ho hg⟩
end
def PsE (w0:World) (d p:Value) (S:List Int) (kk bf bm:Nat) (lim:Int) (w':World):Prop:=∃ P X N O F bn bp Ks,Ps w0 w' P d p X S N O kk F bf bm bn bp Ks lim
section
variable {w0 w:World}{P:Nat->Prop}{d p:Value}{X:XSt}{S:List Int}{N:List (List Int)}{O:List (Int × Int)}{kk:Nat}{F:Nat->List Int}{bf bm:Nat}{bn bp:Nat->Nat}{Ks:Nat->List Int}{lim:Int}{kd no io vo:Int}
theorem Ps.boxed (h:Ps w0 w P d p X S N O kk F bf bm bn bp Ks lim) (kd no io vo:Int):FsAt (w.alloc (.cells #[.int .i64 kd,.int .i64 no,.int .i64 io,.int .i64 vo] 45)) bf p/\Calls Tryz.prog 14 #[p] (w.alloc (.cells #[.int .i64 kd,.int .i64 no,.int .i64 io,.int .i64 vo] 45)) fun e w'=>e=.returned (.int .i64 0)/\∃ P',Pd w0 w' P' d p (callX X) S N O kk F bf bm bn bp Ks lim w.heap.size kd no io vo/\Fmd w' P' d p (callX X) S N O kk F bf:=by
 have hb:=below_box w (.cells #[.int .i64 kd,.int .i64 no,.int .i64 io,.int .i64 vo] 45)
 have hx:=heap_alloc_new w (.cells #[.int .i64 kd,.int .i64 no,.int .i64 io,.int .i64 vo] 45)
 exact ⟨(h.low hb).sd.fs,(h.low hb).begin hx fun hp=>by have:=h.sd.inv.lt _ hp;omega⟩
theorem Pd.keepE {xb:Nat}{N2:List (List Int)}{O2:List (Int × Int)}{F2:Nat->List Int} (h:Pd w0 w P d p X S N O kk F bf bm bn bp Ks lim xb kd no io vo) (hm:Fmd w P d p X S N2 O2 kk F2 bf) (hr:Mr N2 O2 kk F2 Ks lim):Calls Tryz.prog 19 #[p,.bool true] w fun e w'=>e=.returned (.int .i64 0)/\PsE w0 d p S kk bf bm lim w':=
 (h.keep hm hr).mono fun e w' ⟨he,P',X',hs⟩=>⟨he,P',X',_,_,_,_,_,_,hs⟩
theorem Pd.undoE {xb:Nat} (h:Pd w0 w P d p X S N O kk F bf bm bn bp Ks lim xb kd no io vo) (hr:Mr N O kk F Ks lim):Calls Tryz.prog 19 #[p,.bool false] w fun e w'=>e=.returned (.int .i64 0)/\PsE w0 d p S kk bf bm lim w':=
 (h.undo hr).mono fun e w' ⟨he,P',X',hs⟩=>⟨he,P',X',_,_,_,_,_,_,hs⟩
set_option maxHeartbeats 1000000 in
theorem do14_look (h:Ps w0 w P d p X S N O kk F bf bm bn bp Ks lim) (k1:kd≠1) (k2:kd≠2) (k3:kd≠3):
 Calls Tryz.prog 11 #[.pointer (some ⟨bm,0,none⟩),.pointer (some ⟨bf,0,none⟩),.agg #[.int .i64 kd,.int .i64 no,.int .i64 io,.int .i64 vo]] w fun e w'=>e=.returned (.bool true)/\PsE w0 d p S kk bf bm lim w':=by
 obtain ⟨hf,hB⟩:=h.boxed kd no io vo
 have mr:=Lib.hid h.mr
 have e1:(kd==1)=false:=by simpa using k1
 have e2:(kd==2)=false:=by simpa using k2
 have e3:(kd==3)=false:=by simpa using k3
 have cf:=hf.cell
 obtain ⟨xb,hxb⟩:∃ xb,xb=w.heap.size:=⟨_,rfl⟩
 rw[<- hxb] at hB
 have HXB:=Lib.hid hxb
 obtain ⟨w1,hw1⟩:∃ w1,w1=w.alloc (.cells #[.int .i64 kd,.int .i64 no,.int .i64 io,.int .i64 vo] 45):=⟨_,rfl⟩
 have H1:=Lib.hid hw1.symm
 rw[<- hw1] at cf hB
 have KB:=Lib.hid hB
 clear h hf hB hxb hw1 k1 k2 k3
 by_cases ht:2<=no/\no<=5
 · obtain ⟨t1,t2⟩:=ht
   go_enter Tryz.func11,Tryz.ntmps11
   go_upto_region 1 with (fail)
   rw[H1.out,<- HXB.out]
   go_wp2_with (first
    |(go_at_call 14;refine KB.out.mono ?_;rintro e w2 ⟨rfl,P2,hd2,hm2⟩;obtain ⟨b0,b1,b2,b3⟩:=hd2.bx.cells;have cf2:=hd2.sm.fs.cell;have KE2:=Lib.hid (hd2.keepE hm2 mr.out))
    |(go_at_call 19;(with_reducible refine KE2.out.mono ?_);rintro e w3 ⟨rfl,h3⟩))
   go_ret
   exact ⟨rfl,h3⟩
 · by_cases t1:2<=no
   · have t2:¬ no<=5:=fun e=>ht ⟨t1,e⟩
     have t3:decide (no<=5)=false:=decide_eq_false t2
     clear ht
     go_enter Tryz.func11,Tryz.ntmps11
     go_upto_region 1 with (fail)
     rw[H1.out,<- HXB.out]
     go_wp2_with (first
      |(go_at_call 14;refine KB.out.mono ?_;rintro e w2 ⟨rfl,P2,hd2,hm2⟩;obtain ⟨b0,b1,b2,b3⟩:=hd2.bx.cells;have cf2:=hd2.sm.fs.cell;have KE2:=Lib.hid (hd2.undoE mr.out))
      |(go_at_call 19;(with_reducible refine KE2.out.mono ?_);rintro e w3 ⟨rfl,h3⟩))
     go_ret
     exact ⟨rfl,h3⟩
   · have t3:no<2:=by omega
     clear ht
     go_enter Tryz.func11,Tryz.ntmps11
     go_upto_region 1 with (fail)
     rw[H1.out,<- HXB.out]
     go_wp2_with (first
      |(go_at_call 14;refine KB.out.mono ?_;rintro e w2 ⟨rfl,P2,hd2,hm2⟩;obtain ⟨b0,b1,b2,b3⟩:=hd2.bx.cells;have cf2:=hd2.sm.fs.cell;have KE2:=Lib.hid (hd2.undoE mr.out))
      |(go_at_call 19;(with_reducible refine KE2.out.mono ?_);rintro e w3 ⟨rfl,h3⟩))
     go_ret
     exact ⟨rfl,h3⟩
end
section
variable {w0 w:World}{P:Nat->Prop}{d p:Value}{X:XSt}{S:List Int}{N:List (List Int)}{O:List (Int × Int)}{kk:Nat}{F:Nat->List Int}{bf bm:Nat}{bn bp:Nat->Nat}{Ks:Nat->List Int}{lim:Int}{no io vo:Int}{n i:Nat}
set_option maxHeartbeats 2000000 in
theorem do14_set1 (h:Ps w0 w P d p X S N O kk F bf bm bn bp Ks lim) (h1:no=1):
 Calls Tryz.prog 11 #[.pointer (some ⟨bm,0,none⟩),.pointer (some ⟨bf,0,none⟩),.agg #[.int .i64 3,.int .i64 no,.int .i64 io,.int .i64 vo]] w fun e w'=>e=.returned (.bool true)/\PsE w0 d p S kk bf bm lim w':=by
 obtain ⟨hf,hB⟩:=h.boxed 3 no io vo
 have mr:=Lib.hid h.mr
 have cf:=hf.cell
 obtain ⟨xb,hxb⟩:∃ xb,xb=w.heap.size:=⟨_,rfl⟩
 rw[<- hxb] at hB
 have HXB:=Lib.hid hxb
 obtain ⟨w1,hw1⟩:∃ w1,w1=w.alloc (.cells #[.int .i64 3,.int .i64 no,.int .i64 io,.int .i64 vo] 45):=⟨_,rfl⟩
 have H1:=Lib.hid hw1.symm
 rw[<- hw1] at cf hB
 have KB:=Lib.hid hB
 have HNO:Hid (¬ (2<=no/\no<=5/\0<=io/\io<=137/\1<=vo/\vo<768/\io∈Ks no.toNat)):=Lib.hid (by omega)
 have x_f69033:decide (2<=no)=false:=decide_eq_false (by omega)
 have xq:(no==1)=true:=by simp;omega
 clear h1
 clear h hf hB hxb hw1
 go_enter Tryz.func11,Tryz.ntmps11
 go_upto_region 1 with (fail)
 rw[H1.out,<- HXB.out]
 go_wp2_with (first
  |(go_at_call 14;refine KB.out.mono ?_;rintro e w2 ⟨rfl,P2,hd2,hm2⟩;obtain ⟨b0,b1,b2,b3⟩:=hd2.bx.cells;have cf2:=hd2.sm.fs.cell;have KS2:=Lib.hid (do_set_no hd2 hm2 mr.out HNO.out))
  |(go_at_call 31;(with_reducible refine KS2.out.mono ?_);rintro e w3 ⟨rfl,P3,X3,hd3⟩;obtain ⟨d0,d1,d2,d3⟩:=hd3.bx.cells;have cf3:=hd3.sm.fs.cell;have KE3:=Lib.hid (hd3.undoE mr.out))
  |(go_at_call 19;(with_reducible refine KE3.out.mono ?_);rintro e w4 ⟨rfl,h4⟩))
 go_ret
 exact ⟨rfl,h4⟩
set_option maxHeartbeats 2000000 in
theorem do14_set2 (h:Ps w0 w P d p X S N O kk F bf bm bn bp Ks lim) (h1:no<2) (h2:no≠1):
 Calls Tryz.prog 11 #[.pointer (some ⟨bm,0,none⟩),.pointer (some ⟨bf,0,none⟩),.agg #[.int .i64 3,.int .i64 no,.int .i64 io,.int .i64 vo]] w fun e w'=>e=.returned (.bool true)/\PsE w0 d p S kk bf bm lim w':=by
 obtain ⟨hf,hB⟩:=h.boxed 3 no io vo
 have mr:=Lib.hid h.mr
 have cf:=hf.cell
 obtain ⟨xb,hxb⟩:∃ xb,xb=w.heap.size:=⟨_,rfl⟩
 rw[<- hxb] at hB
 have HXB:=Lib.hid hxb
 obtain ⟨w1,hw1⟩:∃ w1,w1=w.alloc (.cells #[.int .i64 3,.int .i64 no,.int .i64 io,.int .i64 vo] 45):=⟨_,rfl⟩
 have H1:=Lib.hid hw1.symm
 rw[<- hw1] at cf hB
 have KB:=Lib.hid hB
 have HNO:Hid (¬ (2<=no/\no<=5/\0<=io/\io<=137/\1<=vo/\vo<768/\io∈Ks no.toNat)):=Lib.hid (by omega)
 have x_f69033:decide (2<=no)=false:=decide_eq_false (by omega)
 have xq:(no==1)=false:=by simp;omega
 clear h1 h2
 clear h hf hB hxb hw1
 go_enter Tryz.func11,Tryz.ntmps11
 go_upto_region 1 with (fail)
 rw[H1.out,<- HXB.out]
 go_wp2_with (first
  |(go_at_call 14;refine KB.out.mono ?_;rintro e w2 ⟨rfl,P2,hd2,hm2⟩;obtain ⟨b0,b1,b2,b3⟩:=hd2.bx.cells;have cf2:=hd2.sm.fs.cell;have KS2:=Lib.hid (do_set_no hd2 hm2 mr.out HNO.out))
  |(go_at_call 31;(with_reducible refine KS2.out.mono ?_);rintro e w3 ⟨rfl,P3,X3,hd3⟩;obtain ⟨d0,d1,d2,d3⟩:=hd3.bx.cells;have cf3:=hd3.sm.fs.cell;have KE3:=Lib.hid (hd3.undoE mr.out))
  |(go_at_call 19;(with_reducible refine KE3.out.mono ?_);rintro e w4 ⟨rfl,h4⟩))
 go_ret
 exact ⟨rfl,h4⟩
set_option maxHeartbeats 2000000 in
theorem do14_set3 (h:Ps w0 w P d p X S N O kk F bf bm bn bp Ks lim) (h1:5<no):
 Calls Tryz.prog 11 #[.pointer (some ⟨bm,0,none⟩),.pointer (some ⟨bf,0,none⟩),.agg #[.int .i64 3,.int .i64 no,.int .i64 io,.int .i64 vo]] w fun e w'=>e=.returned (.bool true)/\PsE w0 d p S kk bf bm lim w':=by
 obtain ⟨hf,hB⟩:=h.boxed 3 no io vo
 have mr:=Lib.hid h.mr
 have cf:=hf.cell
 obtain ⟨xb,hxb⟩:∃ xb,xb=w.heap.size:=⟨_,rfl⟩
 rw[<- hxb] at hB
 have HXB:=Lib.hid hxb
 obtain ⟨w1,hw1⟩:∃ w1,w1=w.alloc (.cells #[.int .i64 3,.int .i64 no,.int .i64 io,.int .i64 vo] 45):=⟨_,rfl⟩
 have H1:=Lib.hid hw1.symm
 rw[<- hw1] at cf hB
 have KB:=Lib.hid hB
 have HNO:Hid (¬ (2<=no/\no<=5/\0<=io/\io<=137/\1<=vo/\vo<768/\io∈Ks no.toNat)):=Lib.hid (by omega)
 have x_f69033:decide (2<=no)=true:=decide_eq_true (by omega)
 have x_ed260c:decide (no<=5)=false:=decide_eq_false (by omega)
 have xq:(no==1)=false:=by simp;omega
 clear h1
 clear h hf hB hxb hw1
 go_enter Tryz.func11,Tryz.ntmps11
 go_upto_region 1 with (fail)
 rw[H1.out,<- HXB.out]
 go_wp2_with (first
  |(go_at_call 14;refine KB.out.mono ?_;rintro e w2 ⟨rfl,P2,hd2,hm2⟩;obtain ⟨b0,b1,b2,b3⟩:=hd2.bx.cells;have cf2:=hd2.sm.fs.cell;have KS2:=Lib.hid (do_set_no hd2 hm2 mr.out HNO.out))
  |(go_at_call 31;(with_reducible refine KS2.out.mono ?_);rintro e w3 ⟨rfl,P3,X3,hd3⟩;obtain ⟨d0,d1,d2,d3⟩:=hd3.bx.cells;have cf3:=hd3.sm.fs.cell;have KE3:=Lib.hid (hd3.undoE mr.out))
  |(go_at_call 19;(with_reducible refine KE3.out.mono ?_);rintro e w4 ⟨rfl,h4⟩))
 go_ret
 exact ⟨rfl,h4⟩
set_option maxHeartbeats 2000000 in
theorem do14_set4 (h:Ps w0 w P d p X S N O kk F bf bm bn bp Ks lim) (h1:2<=no) (h2:no<=5) (h3:io<0):
 Calls Tryz.prog 11 #[.pointer (some ⟨bm,0,none⟩),.pointer (some ⟨bf,0,none⟩),.agg #[.int .i64 3,.int .i64 no,.int .i64 io,.int .i64 vo]] w fun e w'=>e=.returned (.bool true)/\PsE w0 d p S kk bf bm lim w':=by
 obtain ⟨hf,hB⟩:=h.boxed 3 no io vo
 have mr:=Lib.hid h.mr
 have cf:=hf.cell
 obtain ⟨xb,hxb⟩:∃ xb,xb=w.heap.size:=⟨_,rfl⟩
 rw[<- hxb] at hB
 have HXB:=Lib.hid hxb
 obtain ⟨w1,hw1⟩:∃ w1,w1=w.alloc (.cells #[.int .i64 3,.int .i64 no,.int .i64 io,.int .i64 vo] 45):=⟨_,rfl⟩
 have H1:=Lib.hid hw1.symm
 rw[<- hw1] at cf hB
 have KB:=Lib.hid hB
 have HNO:Hid (¬ (2<=no/\no<=5/\0<=io/\io<=137/\1<=vo/\vo<768/\io∈Ks no.toNat)):=Lib.hid (by omega)
 have x_f69033:decide (2<=no)=true:=decide_eq_true (by omega)
 have x_ed260c:decide (no<=5)=true:=decide_eq_true (by omega)
 have x_9b58ce:decide (0<=io)=false:=decide_eq_false (by omega)
 have xq:(no==1)=false:=by simp;omega
 clear h1 h2 h3
 clear h hf hB hxb hw1
 go_enter Tryz.func11,Tryz.ntmps11
 go_upto_region 1 with (fail)
 rw[H1.out,<- HXB.out]
 go_wp2_with (first
  |(go_at_call 14;refine KB.out.mono ?_;rintro e w2 ⟨rfl,P2,hd2,hm2⟩;obtain ⟨b0,b1,b2,b3⟩:=hd2.bx.cells;have cf2:=hd2.sm.fs.cell;have KS2:=Lib.hid (do_set_no hd2 hm2 mr.out HNO.out))
  |(go_at_call 31;(with_reducible refine KS2.out.mono ?_);rintro e w3 ⟨rfl,P3,X3,hd3⟩;obtain ⟨d0,d1,d2,d3⟩:=hd3.bx.cells;have cf3:=hd3.sm.fs.cell;have KE3:=Lib.hid (hd3.undoE mr.out))
  |(go_at_call 19;(with_reducible refine KE3.out.mono ?_);rintro e w4 ⟨rfl,h4⟩))
 go_ret
 exact ⟨rfl,h4⟩
set_option maxHeartbeats 2000000 in
theorem do14_set5 (h:Ps w0 w P d p X S N O kk F bf bm bn bp Ks lim) (h1:2<=no) (h2:no<=5) (h3:137<io):
 Calls Tryz.prog 11 #[.pointer (some ⟨bm,0,none⟩),.pointer (some ⟨bf,0,none⟩),.agg #[.int .i64 3,.int .i64 no,.int .i64 io,.int .i64 vo]] w fun e w'=>e=.returned (.bool true)/\PsE w0 d p S kk bf bm lim w':=by
 obtain ⟨hf,hB⟩:=h.boxed 3 no io vo
 have mr:=Lib.hid h.mr
 have cf:=hf.cell
 obtain ⟨xb,hxb⟩:∃ xb,xb=w.heap.size:=⟨_,rfl⟩
 rw[<- hxb] at hB
 have HXB:=Lib.hid hxb
 obtain ⟨w1,hw1⟩:∃ w1,w1=w.alloc (.cells #[.int .i64 3,.int .i64 no,.int .i64 io,.int .i64 vo] 45):=⟨_,rfl⟩
 have H1:=Lib.hid hw1.symm
 rw[<- hw1] at cf hB
 have KB:=Lib.hid hB
 have HNO:Hid (¬ (2<=no/\no<=5/\0<=io/\io<=137/\1<=vo/\vo<768/\io∈Ks no.toNat)):=Lib.hid (by omega)
 have x_f69033:decide (2<=no)=true:=decide_eq_true (by omega)
 have x_ed260c:decide (no<=5)=true:=decide_eq_true (by omega)
 have x_9b58ce:decide (0<=io)=true:=decide_eq_true (by omega)
 have x_97247d:decide (io<=137)=false:=decide_eq_false (by omega)
 have xq:(no==1)=false:=by simp;omega
 clear h1 h2 h3
 clear h hf hB hxb hw1
 go_enter Tryz.func11,Tryz.ntmps11
 go_upto_region 1 with (fail)
 rw[H1.out,<- HXB.out]
 go_wp2_with (first
  |(go_at_call 14;refine KB.out.mono ?_;rintro e w2 ⟨rfl,P2,hd2,hm2⟩;obtain ⟨b0,b1,b2,b3⟩:=hd2.bx.cells;have cf2:=hd2.sm.fs.cell;have KS2:=Lib.hid (do_set_no hd2 hm2 mr.out HNO.out))
  |(go_at_call 31;(with_reducible refine KS2.out.mono ?_);rintro e w3 ⟨rfl,P3,X3,hd3⟩;obtain ⟨d0,d1,d2,d3⟩:=hd3.bx.cells;have cf3:=hd3.sm.fs.cell;have KE3:=Lib.hid (hd3.undoE mr.out))
  |(go_at_call 19;(with_reducible refine KE3.out.mono ?_);rintro e w4 ⟨rfl,h4⟩))
 go_ret
 exact ⟨rfl,h4⟩
set_option maxHeartbeats 2000000 in
theorem do14_set6 (h:Ps w0 w P d p X S N O kk F bf bm bn bp Ks lim) (h1:2<=no) (h2:no<=5) (h3:0<=io) (h4:io<=137) (h5:vo<1):
 Calls Tryz.prog 11 #[.pointer (some ⟨bm,0,none⟩),.pointer (some ⟨bf,0,none⟩),.agg #[.int .i64 3,.int .i64 no,.int .i64 io,.int .i64 vo]] w fun e w'=>e=.returned (.bool true)/\PsE w0 d p S kk bf bm lim w':=by
 obtain ⟨hf,hB⟩:=h.boxed 3 no io vo
 have mr:=Lib.hid h.mr
 have cf:=hf.cell
 obtain ⟨xb,hxb⟩:∃ xb,xb=w.heap.size:=⟨_,rfl⟩
 rw[<- hxb] at hB
 have HXB:=Lib.hid hxb
 obtain ⟨w1,hw1⟩:∃ w1,w1=w.alloc (.cells #[.int .i64 3,.int .i64 no,.int .i64 io,.int .i64 vo] 45):=⟨_,rfl⟩
 have H1:=Lib.hid hw1.symm
 rw[<- hw1] at cf hB
 have KB:=Lib.hid hB
 have HNO:Hid (¬ (2<=no/\no<=5/\0<=io/\io<=137/\1<=vo/\vo<768/\io∈Ks no.toNat)):=Lib.hid (by omega)
 have x_f69033:decide (2<=no)=true:=decide_eq_true (by omega)
 have x_ed260c:decide (no<=5)=true:=decide_eq_true (by omega)
 have x_9b58ce:decide (0<=io)=true:=decide_eq_true (by omega)
 have x_97247d:decide (io<=137)=true:=decide_eq_true (by omega)
 have x_2080f4:decide (1<=vo)=false:=decide_eq_false (by omega)
 have xq:(no==1)=false:=by simp;omega
 clear h1 h2 h3 h4 h5
 clear h hf hB hxb hw1
 go_enter Tryz.func11,Tryz.ntmps11
 go_upto_region 1 with (fail)
 rw[H1.out,<- HXB.out]
 go_wp2_with (first
  |(go_at_call 14;refine KB.out.mono ?_;rintro e w2 ⟨rfl,P2,hd2,hm2⟩;obtain ⟨b0,b1,b2,b3⟩:=hd2.bx.cells;have cf2:=hd2.sm.fs.cell;have KS2:=Lib.hid (do_set_no hd2 hm2 mr.out HNO.out))
  |(go_at_call 31;(with_reducible refine KS2.out.mono ?_);rintro e w3 ⟨rfl,P3,X3,hd3⟩;obtain ⟨d0,d1,d2,d3⟩:=hd3.bx.cells;have cf3:=hd3.sm.fs.cell;have KE3:=Lib.hid (hd3.undoE mr.out))
  |(go_at_call 19;(with_reducible refine KE3.out.mono ?_);rintro e w4 ⟨rfl,h4⟩))
 go_ret
 exact ⟨rfl,h4⟩
set_option maxHeartbeats 2000000 in
theorem do14_set7 (h:Ps w0 w P d p X S N O kk F bf bm bn bp Ks lim) (h1:2<=no) (h2:no<=5) (h3:0<=io) (h4:io<=137) (h5:768<=vo):
 Calls Tryz.prog 11 #[.pointer (some ⟨bm,0,none⟩),.pointer (some ⟨bf,0,none⟩),.agg #[.int .i64 3,.int .i64 no,.int .i64 io,.int .i64 vo]] w fun e w'=>e=.returned (.bool true)/\PsE w0 d p S kk bf bm lim w':=by
 obtain ⟨hf,hB⟩:=h.boxed 3 no io vo
 have mr:=Lib.hid h.mr
 have cf:=hf.cell
 obtain ⟨xb,hxb⟩:∃ xb,xb=w.heap.size:=⟨_,rfl⟩
 rw[<- hxb] at hB
 have HXB:=Lib.hid hxb
 obtain ⟨w1,hw1⟩:∃ w1,w1=w.alloc (.cells #[.int .i64 3,.int .i64 no,.int .i64 io,.int .i64 vo] 45):=⟨_,rfl⟩
 have H1:=Lib.hid hw1.symm
 rw[<- hw1] at cf hB
 have KB:=Lib.hid hB
 have HNO:Hid (¬ (2<=no/\no<=5/\0<=io/\io<=137/\1<=vo/\vo<768/\io∈Ks no.toNat)):=Lib.hid (by omega)
 have x_f69033:decide (2<=no)=true:=decide_eq_true (by omega)
 have x_ed260c:decide (no<=5)=true:=decide_eq_true (by omega)
 have x_9b58ce:decide (0<=io)=true:=decide_eq_true (by omega)
 have x_97247d:decide (io<=137)=true:=decide_eq_true (by omega)
 have x_2080f4:decide (1<=vo)=true:=decide_eq_true (by omega)
 have x_bcd903:decide (vo<768)=false:=decide_eq_false (by omega)
 have xq:(no==1)=false:=by simp;omega
 clear h1 h2 h3 h4 h5
 clear h hf hB hxb hw1
 go_enter Tryz.func11,Tryz.ntmps11
 go_upto_region 1 with (fail)
 rw[H1.out,<- HXB.out]
 go_wp2_with (first
  |(go_at_call 14;refine KB.out.mono ?_;rintro e w2 ⟨rfl,P2,hd2,hm2⟩;obtain ⟨b0,b1,b2,b3⟩:=hd2.bx.cells;have cf2:=hd2.sm.fs.cell;have KS2:=Lib.hid (do_set_no hd2 hm2 mr.out HNO.out))
  |(go_at_call 31;(with_reducible refine KS2.out.mono ?_);rintro e w3 ⟨rfl,P3,X3,hd3⟩;obtain ⟨d0,d1,d2,d3⟩:=hd3.bx.cells;have cf3:=hd3.sm.fs.cell;have KE3:=Lib.hid (hd3.undoE mr.out))
  |(go_at_call 19;(with_reducible refine KE3.out.mono ?_);rintro e w4 ⟨rfl,h4⟩))
 go_ret
 exact ⟨rfl,h4⟩
end
end Go.Proofs.YtaakepjgpnaecaaGreat
