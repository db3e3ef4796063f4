/- What the law rests on: part 17. -/
import Derived.Test.YtedabomlfcghoaaGreatKF16
set_option linter.unusedVariables false
namespace Go.Proofs.YtedabomlfcghoaaGreat
set_option maxRecDepth 100000
open Go.RowKit BM
def locX (x F:List Int) (i:Nat):Int:=if i<10 then num x (3+i) else if i=138 then num x 13 else num F (i-10)
def atX (i:Nat):Int:=if i=138 then 65535 else (i:Int)
theorem atX_bd {i:Nat} (h:i<139):0<=atX i/\atX i<=65535:=by unfold atX;split <;> omega
theorem atX_inj {i j:Nat} (hi:i<139) (hj:j<139) (h:atX i=atX j):i=j:=by unfold atX at h;split at h <;> split at h <;> omega
def OwAt (O:List (Int × Int)) (kk:Nat) (v:Int) (o:Int × Int):Prop:=(0<v/\v<64*(kk:Int))/\fixB v=false/\O.getD v.toNat (0,0)=o
theorem OwAt.ne {O:List (Int × Int)}{kk:Nat}{v u:Int}{o q:Int × Int} (h:OwAt O kk v o) (k:OwAt O kk u q) (hne:o≠q):v≠u:=fun e=>hne (by rw[<- h.2.2,<- k.2.2,e])
theorem OwAt.set {O:List (Int × Int)}{kk:Nat}{v:Int}{o:Int × Int} (h:OwAt O kk v o) {f:Nat} (q:Int × Int) (hne:v.toNat≠f):OwAt (O.set f q) kk v o:=
 ⟨h.1,h.2.1,by rw[getD_other _ _ _ hne];exact h.2.2⟩
theorem num_set {x:List Int}{a:Nat} (ha:a<x.length) (v:Int) (b:Nat):num (x.set a v) b=if b=a then v else num x b:=by
 unfold num;exact getD_set _ _ _ _ _ ha
def cntX (f:Nat->Int):Nat->Nat
 |0=>0
 |k+1=>cntX f k+if f k≠0 then 1 else 0
theorem cntX_same {f g:Nat->Int}:∀ k,(∀ i,i<k->(f i≠0 ↔ g i≠0))->cntX f k=cntX g k
 |0,_=>rfl
 |k+1,h=>by
  rw[cntX,cntX,cntX_same k fun i hi=>h i (by omega)]
  have:=h k (by omega)
  by_cases e:f k=0 <;> by_cases e':g k=0 <;> simp_all
theorem cntX_more {f g:Nat->Int}{i:Nat} (h0:f i=0) (h1:g i≠0):∀ k,i<k->(∀ j,j<k->j≠i->(f j≠0 ↔ g j≠0))->cntX g k=cntX f k+1
 |0,h,_=>absurd h (Nat.not_lt_zero _)
 |k+1,h,ho=>by
  rw[cntX,cntX]
  by_cases e:i=k
  · subst e
    rw[cntX_same (f:=g) (g:=f) i fun j hj=>(ho j (by omega) (by omega)).symm,if_pos h1,if_neg (by simp[h0])]
  · rw[cntX_more h0 h1 k (by omega) fun j hj=>ho j (by omega)]
    have:=ho k (by omega) (fun e'=>e e'.symm)
    by_cases a:f k=0 <;> by_cases b:g k=0 <;> simp_all <;> omega
def usedX (x F:List Int):Nat:=cntX (locX x F) 139
structure Fils (Ex:Nat->Nat->Prop) (G:List (List Int)) (S:List Int) (N:List (List Int)) (O:List (Int × Int)) (kk:Nat) (F:Nat->List Int):Prop where
 fl:∀ n,(F n).length=128/\locS (F n)=true
 m0:∀ n,1<=n->n<48->num (N.getD n []) 13=0->F n=List.replicate 128 0
 m1:∀ n,1<=n->n<48->num (N.getD n []) 13≠0->G.getD (num (N.getD n []) 13).toNat []=mapS (F n)
 ow:∀ n i,1<=n->n<48->i<139->¬ Ex n i->locX (N.getD n []) (F n) i≠0->OwAt O kk (locX (N.getD n []) (F n) i) ((n:Int),atX i)
 tb:∀ t,t<6->O.getD (tabAt S t) (0,0)=(65534,(t:Int))
def noEx:Nat->Nat->Prop:=fun _ _=>False
section
variable {Ex:Nat->Nat->Prop}{G:List (List Int)}{S:List Int}{N:List (List Int)}{O:List (Int × Int)}{kk:Nat}{F:Nat->List Int}
theorem locX_map (x F:List Int):locX x F 138=num x 13:=rfl
theorem Fils.map (h:Fils Ex G S N O kk F) {n:Nat} (h1:1<=n) (h48:n<48) (hE:¬ Ex n 138) (hm:num (N.getD n []) 13≠0):OwAt O kk (num (N.getD n []) 13) ((n:Int),65535):=h.ow n 138 h1 h48 (by decide) hE hm
theorem owned_free {i j:Int} (hi:i≠0) {v:Int} (h:OwAt O kk v (i,j)):freeJ O v.toNat=false:=by
 unfold freeJ;rw[h.2.2];exact decide_eq_false hi
theorem Fils.take (h:Fils noEx G S N O kk F) {f:Nat} (hf:freeJ O f=true) (hk:f<64*kk) (h12:kk<=12) (q:Int × Int):Fils noEx (putG G (f / 64) (grO (O.set f q) (f / 64))) S N (O.set f q) kk F:=by
 have hne:∀ {i j v:Int},i≠0->OwAt O kk v (i,j)->v.toNat≠f:=fun hi hv e=>by
  have:=owned_free hi hv;rw[e,hf] at this;cases this
 refine ⟨h.fl,h.m0,fun n h1 h48 hm=>?_,fun n i h1 h48 hi hE hl=>?_,fun t ht=>?_⟩
 · have ho:=h.map h1 h48 id hm
   have hx:=dscN_fix (show f / 64<12 by omega)
   have e0:(((num (N.getD n []) 13).toNat:Nat):Int)=num (N.getD n []) 13:=by have:=ho.1;omega
   have a1:(num (N.getD n []) 13).toNat≠dscN (f / 64):=fun e=>by
    have:=ho.2.1;rw[<- e0,e,hx.1] at this;cases this
   have a2:(num (N.getD n []) 13).toNat≠dscN (f / 64)+1:=fun e=>by
    have:=ho.2.1;rw[<- e0,e,hx.2.1] at this;cases this
   unfold Go.Proofs.YtedabomlfcghoaaGreat.putG
   rw[getD_other _ _ _ a1,getD_other _ _ _ a2]
   exact h.m1 n h1 h48 hm
 · have ho:=h.ow n i h1 h48 hi hE hl
   exact ho.set q (hne (by omega) ho)
 · rw[getD_other _ _ _ fun e=>?_]
   · exact h.tb t ht
   · have:=h.tb t ht
     rw[e] at this
     unfold freeJ at hf
     rw[this] at hf
     cases of_decide_eq_true hf
theorem Fils.give (h:Fils noEx G S N O kk F) {n i:Nat} (h1:1<=n) (h48:n<48) (hi:i<139) (h12:kk<=12) {f:Nat} (hl:locX (N.getD n []) (F n) i=(f:Int)) (h0:f≠0) (q:Int × Int):
 Fils (fun a b=>a=n/\b=i) (putG G (f / 64) (grO (O.set f q) (f / 64))) S N (O.set f q) kk F:=by
 have hv:=h.ow n i h1 h48 hi id (by rw[hl];omega)
 rw[hl] at hv
 have hne:∀ {v:Int} {o:Int × Int},OwAt O kk v o->o≠((n:Int),atX i)->v.toNat≠f:=fun ho hq e=>by
  have:=ho.ne hv hq
  have:=ho.1
  omega
 have hk:f<64*kk:=by have:=hv.1;omega
 refine ⟨h.fl,h.m0,fun m k1 k48 hm=>?_,fun m j k1 k48 hj hE hl2=>?_,fun t ht=>?_⟩
 · have ho:=h.map k1 k48 id hm
   have hx:=dscN_fix (show f / 64<12 by omega)
   have e0:(((num (N.getD m []) 13).toNat:Nat):Int)=num (N.getD m []) 13:=by have:=ho.1;omega
   have a1:(num (N.getD m []) 13).toNat≠dscN (f / 64):=fun e=>by
    have:=ho.2.1;rw[<- e0,e,hx.1] at this;cases this
   have a2:(num (N.getD m []) 13).toNat≠dscN (f / 64)+1:=fun e=>by
    have:=ho.2.1;rw[<- e0,e,hx.2.1] at this;cases this
   unfold Go.Proofs.YtedabomlfcghoaaGreat.putG
   rw[getD_other _ _ _ a1,getD_other _ _ _ a2]
   exact h.m1 m k1 k48 hm
 · have ho:=h.ow m j k1 k48 hj id hl2
   refine ho.set q (hne ho fun e=>hE ?_)
   have e1:=(Prod.mk.inj e).1
   have e2:=atX_inj hj hi (Prod.mk.inj e).2
   exact ⟨by omega,e2⟩
 · rw[getD_other _ _ _ fun e=>?_]
   · exact h.tb t ht
   · have h3:=h.tb t ht
     have h4:=hv.2.2
     rw[Int.toNat_natCast,<- e,h3] at h4
     have:=(Prod.mk.inj h4).1
     omega
theorem Fils.data (h:Fils Ex G S N O kk F) {f:Nat} (hf:∀ n,1<=n->n<48->num (N.getD n []) 13≠0->(num (N.getD n []) 13).toNat≠f) (Z:List Int):Fils Ex (G.set f Z) S N O kk F:=
 ⟨h.fl,h.m0,fun n h1 h48 hm=>by rw[getD_other _ _ _ (hf n h1 h48 hm)];exact h.m1 n h1 h48 hm,h.ow,h.tb⟩
theorem getD_n {N:List (List Int)}{n:Nat} (hn:n<N.length) (y:List Int) (m:Nat):(N.set n y).getD m []=if m=n then y else N.getD m []:=getD_set _ _ _ _ _ hn
theorem Fils.node (h:Fils Ex G S N O kk F) {n:Nat} (h1:1<=n) (h48:n<48) (hl:N.length=48) {y:List Int} (hE:∀ a b,Ex a b->a=n)
 (hm0:num y 13=0->F n=List.replicate 128 0) (hm1:num y 13≠0->G.getD (num y 13).toNat []=mapS (F n))
 (how:∀ i,i<139->locX y (F n) i≠0->OwAt O kk (locX y (F n) i) ((n:Int),atX i)) (E:List Int):Fils noEx (G.set (tabAt S (n / 8)) E) S (N.set n y) O kk F:=by
 have hn:n<N.length:=by omega
 have htb:=h.tb (n / 8) (by omega)
 have hne:∀ {v i j:Int},i<48->OwAt O kk v (i,j)->v.toNat≠tabAt S (n / 8):=fun hi ho e=>by
  have:=ho.2.2
  rw[e,htb] at this
  have:=(Prod.mk.inj this).1
  omega
 refine ⟨h.fl,fun m k1 k48=>?_,fun m k1 k48=>?_,fun m i k1 k48 hi _=>?_,h.tb⟩
 · rw[getD_n hn];split
   · next e=>rw[e];exact hm0
   · exact h.m0 m k1 k48
 · rw[getD_n hn];split
   · next e=>rw[e];exact fun hz=>by rw[getD_other _ _ _ (show (num y 13).toNat≠tabAt S (n / 8) from hne (by omega) (how 138 (by decide) hz))];exact hm1 hz
   · next e=>exact fun hz=>by rw[getD_other _ _ _ (hne (by omega) (h.map k1 k48 (fun hx=>e (hE _ _ hx)) hz))];exact h.m1 m k1 k48 hz
 · rw[getD_n hn];split
   · next e=>rw[e];exact how i hi
   · next e=>exact h.ow m i k1 k48 hi fun hx=>e (hE _ _ hx)
def setF (F:Nat->List Int) (n:Nat) (L:List Int):Nat->List Int:=fun a=>if a=n then L else F a
theorem setF_at (F:Nat->List Int) (n:Nat) (L:List Int):setF F n L n=L:=if_pos rfl
theorem setF_ne (F:Nat->List Int) {n m:Nat} (h:m≠n) (L:List Int):setF F n L m=F m:=if_neg h
theorem Fils.far (h:Fils Ex G S N O kk F) {n:Nat} (h1:1<=n) (h48:n<48) {m:Nat} (hm:num (N.getD n []) 13=(m:Int)) (hm0:m≠0) (hmE:¬ Ex n 138) (hG:m<G.length) {L:List Int} (hL:L.length=128) (hf:locS L=true) (hE:∀ a b,Ex a b->a=n)
 (how:∀ i,10<=i->i<138->num L (i-10)≠0->OwAt O kk (num L (i-10)) ((n:Int),atX i)) (hEd:∀ i,i<10->¬ Ex n i):Fils noEx (G.set m (mapS L)) S N O kk (setF F n L):=by
 have hz:num (N.getD n []) 13≠0:=by rw[hm];omega
 have hmo:=h.map h1 h48 hmE hz
 refine ⟨fun a=>?_,fun a k1 k48=>?_,fun a k1 k48=>?_,fun a i k1 k48 hi _=>?_,h.tb⟩
 · unfold setF;split
   · exact ⟨hL,hf⟩
   · exact h.fl a
 · unfold setF;split
   · next e=>rw[e];exact fun h=>absurd h hz
   · exact h.m0 a k1 k48
 · unfold setF;split
   · next e=>rw[e,hm,Int.toNat_natCast];exact fun _=>by rw[getD_set _ _ _ _ _ hG,if_pos rfl]
   · next e=>
      intro ha
      have ho:=h.map k1 k48 (fun hx=>e (hE _ _ hx)) ha
      rw[getD_other _ _ _ fun e2=>?_]
      · exact h.m1 a k1 k48 ha
      · refine ho.ne hmo (fun e3=>?_) (by have:=ho.1;rw[hm];omega)
        have:=(Prod.mk.inj e3).1
        omega
 · unfold setF;split
   · next e=>
     rw[e]
     intro hl
     by_cases c:i<10
     · have e1:locX (N.getD n []) L i=locX (N.getD n []) (F n) i:=by unfold locX;rw[if_pos c,if_pos c]
       rw[e1] at hl |-
       exact h.ow n i h1 h48 hi (hEd i c) hl
     · by_cases c2:i=138
       · subst c2;exact hmo
       · have e1:locX (N.getD n []) L i=num L (i-10):=by unfold locX;rw[if_neg c,if_neg c2]
         rw[e1] at hl |-
         exact how i (by omega) (by omega) hl
   · next e=>exact h.ow a i k1 k48 hi fun hx=>e (hE _ _ hx)
end
def DataK (O O':List (Int × Int)) (G G':List (List Int)):Prop:=∀ v:Nat,1<=(O'.getD v (0,0)).1->(O'.getD v (0,0)).1<48->(O'.getD v (0,0)).2≠65535->O.getD v (0,0)=O'.getD v (0,0)->G'.getD v []=G.getD v []
theorem DataK.refl (O:List (Int × Int)) (G:List (List Int)):DataK O O G G:=fun _ _ _ _ _=>rfl
def Less (O O':List (Int × Int)):Prop:=∀ v:Nat,O'.getD v (0,0)=O.getD v (0,0)\/O'.getD v (0,0)=(0,0)
theorem Less.refl (O:List (Int × Int)):Less O O:=fun _=>.inl rfl
theorem Less.trans {A B C:List (Int × Int)} (h:Less A B) (k:Less B C):Less A C:=fun v=>by
 rcases k v with e|e
 · rw[e];exact h v
 · exact .inr e
theorem DataK.less {A B C:List (Int × Int)}{G G' G'':List (List Int)} (h:DataK A B G G') (k:DataK B C G' G'') (l:Less B C):DataK A C G G'':=fun v a b c e=>by
 have eb:B.getD v (0,0)=C.getD v (0,0):=by
  rcases l v with h1|h1
  · exact h1.symm
  · rw[h1] at a;cases a
 rw[k v a b c eb,h v (by rw[eb];exact a) (by rw[eb];exact b) (by rw[eb];exact c) (by rw[e,eb])]
def bkB (M:Nat->Option (List Int)) (i:Nat):List Int:=(M i).getD z256
def updB (M:Nat->Option (List Int)) (i:Nat) (l:List Int):Nat->Option (List Int):=fun j=>if j=i then some l else M j
def wr1 (M:Nat->Option (List Int)) (a:Nat) (v:Int):Nat->Option (List Int):=updB M (a / 256) ((bkB M (a / 256)).set (a%256) v)
def wrL:(Nat->Option (List Int))->Nat->List Int->(Nat->Option (List Int))
 |M,_,[]=>M
 |M,a,v :: l=>wrL (wr1 M a v) (a+1) l
def byB (M:Nat->Option (List Int)) (j:Nat):Int:=(bkB M (j / 256)).getD (j%256) 0
def rdB (M:Nat->Option (List Int)) (a n:Nat):List Int:=(List.range n).map fun i=>byB M (a+i)
def rsB (M:Nat->Option (List Int)) (n:Nat):Nat->Option (List Int):=fun i=>if n<=256*i then none else (M i).map fun l=>if n<256*i+256 then l.take (n-256*i) ++ List.replicate (256-(n-256*i)) 0 else l
structure OkB (M:Nat->Option (List Int)):Prop where
 len:∀ i l,M i=some l->l.length=256
 byt:∀ i l,M i=some l->Byt l
theorem z256_len:z256.length=256:=List.length_replicate
theorem z256_byt:Byt z256:=byt_replicate 256
section
variable {M:Nat->Option (List Int)}
theorem OkB.blk (h:OkB M) (i:Nat):(bkB M i).length=256/\Byt (bkB M i):=by
 unfold bkB
 cases e:M i
 · exact ⟨z256_len,z256_byt⟩
 · exact ⟨h.len i _ e,h.byt i _ e⟩
theorem OkB.upd (h:OkB M) (i:Nat) {l:List Int} (hl:l.length=256) (hb:Byt l):OkB (updB M i l):=by
 constructor
 · intro j m e
   unfold updB at e
   split at e
   · cases e;exact hl
   · exact h.len j m e
 · intro j m e
   unfold updB at e
   split at e
   · cases e;exact hb
   · exact h.byt j m e
theorem byt_set {l:List Int} (h:Byt l) (i:Nat) {v:Int} (hv:0<=v/\v<=255):Byt (l.set i v):=byt_of_mem fun x hx=>by
 rcases List.mem_or_eq_of_mem_set hx with h1|h1
 · exact byt_mem h x h1
 · rw[h1];exact hv
theorem OkB.wr1 (h:OkB M) (a:Nat) {v:Int} (hv:0<=v/\v<=255):OkB (wr1 M a v):=h.upd _ (by rw[List.length_set];exact (h.blk _).1) (byt_set (h.blk _).2 _ hv)
theorem byt_cons {v:Int}{l:List Int} (h:Byt (v :: l)):(0<=v/\v<=255)/\Byt l:=⟨byt_mem h v List.mem_cons_self,byt_of_mem fun x hx=>byt_mem h x (List.mem_cons_of_mem _ hx)⟩
theorem OkB.wrL:∀ {M:Nat->Option (List Int)} (l:List Int) (a:Nat),OkB M->Byt l->OkB (wrL M a l)
 |_,[],_,h,_=>h
 |_,v :: l,a,h,hb=>OkB.wrL l (a+1) (h.wr1 a (byt_cons hb).1) (byt_cons hb).2
theorem OkB.rs (h:OkB M) (n:Nat):OkB (rsB M n):=by
 have key:∀ i l,rsB M n i=some l->∃ m,M i=some m/\l=(if n<256*i+256 then m.take (n-256*i) ++ List.replicate (256-(n-256*i)) 0 else m)/\¬ n<=256*i:=fun i l e=>by
  unfold rsB at e
  split at e
  · cases e
  · next hn=>
    obtain ⟨m,e1,e2⟩:=Option.map_eq_some_iff.1 e
    exact ⟨m,e1,e2.symm,hn⟩
 constructor
 · intro i l e
   obtain ⟨m,e1,rfl,hn⟩:=key i l e
   have:=h.len i m e1
   split
   · simp;omega
   · exact this
 · intro i l e
   obtain ⟨m,e1,rfl,hn⟩:=key i l e
   have:=h.byt i m e1
   split
   · exact byt_append (byt_take this _) (byt_replicate _)
   · exact this
theorem updB_at (M:Nat->Option (List Int)) (i:Nat) (l:List Int):updB M i l i=some l:=if_pos rfl
theorem updB_ne (M:Nat->Option (List Int)) {i j:Nat} (h:j≠i) (l:List Int):updB M i l j=M j:=if_neg h
theorem bkB_upd (M:Nat->Option (List Int)) (i j:Nat) (l:List Int):bkB (updB M i l) j=if j=i then l else bkB M j:=by
 unfold bkB updB
 by_cases e:j=i
 · rw[if_pos e,if_pos e];rfl
 · rw[if_neg e,if_neg e]
theorem wrL_append:∀ (l m:List Int) (M:Nat->Option (List Int)) (a:Nat),wrL M a (l ++ m)=wrL (wrL M a l) (a+l.length) m
 |[],m,M,a=>rfl
 |v :: l,m,M,a=>by
  show wrL (Go.Proofs.YtedabomlfcghoaaGreat.wr1 M a v) (a+1) (l ++ m)=_
  rw[wrL_append l m,List.length_cons,show a+(l.length+1)=a+1+l.length by omega]
  rfl
theorem updB_upd (M:Nat->Option (List Int)) (i:Nat) (l m:List Int):updB (updB M i l) i m=updB M i m:=by
 funext j
 unfold updB
 by_cases e:j=i
 · rw[if_pos e,if_pos e]
 · rw[if_neg e,if_neg e,if_neg e]
theorem wrL_block:∀ (l:List Int) (M:Nat->Option (List Int)) (a i o:Nat),0<l.length->a=256*i+o->o+l.length<=256->OkB M->Byt l->wrL M a l=updB M i (splice (bkB M i) o l)
 |[],_,_,_,_,h,_,_,_,_=>absurd h (Nat.lt_irrefl 0)
 |v :: l,M,a,i,o,_,ha,ho,hk,hb=>by
  have hd:a / 256=i:=by omega
  have hm:a%256=o:=by omega
  rw[List.length_cons] at ho
  have hw:Go.Proofs.YtedabomlfcghoaaGreat.wr1 M a v=updB M i ((bkB M i).set o v):=by unfold Go.Proofs.YtedabomlfcghoaaGreat.wr1;rw[hd,hm]
  have hlen:=(hk.blk i).1
  show wrL (Go.Proofs.YtedabomlfcghoaaGreat.wr1 M a v) (a+1) l=_
  have hsp:splice (bkB M i) o (v :: l)=splice ((bkB M i).set o v) (o+1) l:=by
   unfold splice
   rw[List.length_cons,List.take_set,List.drop_set_of_lt (by omega),show o+(l.length+1)=o+1+l.length by omega]
   have e:(bkB M i).take (o+1)=(bkB M i).take o ++ [(bkB M i)[o]'(by omega)]:=List.take_succ_eq_append_getElem (by omega)
   rw[e,List.set_append_right _ _ (by rw[List.length_take];omega)]
   simp[List.length_take,Nat.min_eq_left (show o<=(bkB M i).length by omega)]
  by_cases h0:l.length=0
  · have:l=[]:=List.eq_nil_of_length_eq_zero h0
    subst this
    rw[hw]
    show updB M i _=_
    rw[hsp]
    congr 1
    unfold splice
    simp
  · rw[wrL_block l _ (a+1) i (o+1) (by omega) (by omega) (by omega) (hk.wr1 a (byt_cons hb).1) (byt_cons hb).2,hw,updB_upd,bkB_upd,if_pos rfl,hsp]
theorem byB_wr1 (h:OkB M) (a:Nat) (v:Int) (j:Nat):byB (Go.Proofs.YtedabomlfcghoaaGreat.wr1 M a v) j=if j=a then v else byB M j:=by
 unfold byB Go.Proofs.YtedabomlfcghoaaGreat.wr1
 rw[bkB_upd]
 have hl:=(h.blk (a / 256)).1
 by_cases e:j=a
 · rw[if_pos e,e,if_pos rfl,getD_set _ _ _ _ _ (by omega),if_pos rfl]
 · rw[if_neg e]
   by_cases e2:j / 256=a / 256
   · rw[if_pos e2,getD_set _ _ _ _ _ (by omega),if_neg (by omega),e2]
   · rw[if_neg e2]
theorem byB_wrL:∀ (l:List Int) (M:Nat->Option (List Int)) (a:Nat),OkB M->Byt l->∀ j,byB (wrL M a l) j=if a<=j/\j<a+l.length then l.getD (j-a) 0 else byB M j
 |[],M,a,_,_,j=>by rw[if_neg (by simp)];rfl
 |v :: l,M,a,hk,hb,j=>by
  show byB (wrL (Go.Proofs.YtedabomlfcghoaaGreat.wr1 M a v) (a+1) l) j=_
  rw[byB_wrL l _ (a+1) (hk.wr1 a (byt_cons hb).1) (byt_cons hb).2,byB_wr1 hk,List.length_cons]
  by_cases e:j=a
  · subst e
    rw[if_neg (by omega),if_pos rfl,if_pos (by omega),Nat.sub_self];rfl
  · by_cases c:a+1<=j/\j<a+1+l.length
    · rw[if_pos c,if_pos (by omega),show j-a=j-(a+1)+1 by omega];rfl
    · rw[if_neg c,if_neg e,if_neg (by omega)]
theorem byB_rs (h:OkB M) (n j:Nat):byB (rsB M n) j=if j<n then byB M j else 0:=by
 unfold byB bkB rsB
 by_cases c:n<=256*(j / 256)
 · rw[if_pos c,if_neg (by omega)]
   show z256.getD _ 0=0
   unfold z256
   rw[List.getD_eq_getElem?_getD,List.getElem?_replicate]
   split <;> rfl
 · rw[if_neg c]
   cases e:M (j / 256)
   · show z256.getD _ 0=if j<n then z256.getD _ 0 else 0
     split
     · rfl
     · unfold z256
       rw[List.getD_eq_getElem?_getD,List.getElem?_replicate]
       split <;> rfl
   · next l=>
     have hl:=h.len _ _ e
     show (if n<256*(j / 256)+256 then l.take (n-256*(j / 256)) ++ List.replicate (256-(n-256*(j / 256))) 0 else l).getD (j%256) 0=if j<n then l.getD (j%256) 0 else 0
     by_cases c2:n<256*(j / 256)+256
     · rw[if_pos c2]
       by_cases c3:j<n
       · rw[if_pos c3,List.getD_eq_getElem?_getD,List.getElem?_append_left (by rw[List.length_take];omega),List.getElem?_take,if_pos (by omega),List.getD_eq_getElem?_getD]
       · rw[if_neg c3,List.getD_eq_getElem?_getD,List.getElem?_append_right (by rw[List.length_take];omega),List.getElem?_replicate]
         split <;> rfl
     · rw[if_neg c2,if_pos (by omega)]
theorem rdB_len (M:Nat->Option (List Int)) (a n:Nat):(rdB M a n).length=n:=by unfold rdB;rw[List.length_map,List.length_range]
theorem rdB_get (M:Nat->Option (List Int)) (a:Nat) {n i:Nat} (h:i<n):(rdB M a n).getD i 0=byB M (a+i):=by
 unfold rdB
 rw[List.getD_eq_getElem?_getD,List.getElem?_map,List.getElem?_range h];rfl
theorem rdB_more (M:Nat->Option (List Int)) (a n m:Nat):rdB M a (n+m)=rdB M a n ++ rdB M (a+n) m:=by
 unfold rdB
 rw[List.range_add,List.map_append,List.map_map]
 congr 1
 apply List.map_congr_left
 intro i _
 show byB M (a+(n+i))=byB M (a+n+i)
 rw[Nat.add_assoc]
theorem rdB_block (h:OkB M) {a i o n:Nat} (ha:a=256*i+o) (ho:o+n<=256):rdB M a n=((bkB M i).drop o).take n:=by
 have hl:=(h.blk i).1
 apply List.ext_getElem
 · rw[rdB_len,List.length_take,List.length_drop];omega
 · intro k h1 h2
   rw[rdB_len] at h1
   have e1:=rdB_get M a h1
   rw[List.getD_eq_getElem?_getD,List.getElem?_eq_getElem (by rw[rdB_len];exact h1)] at e1
   have e2:(rdB M a n)[k]'(by rw[rdB_len];exact h1)=byB M (a+k):=e1
   rw[e2,List.getElem_take,List.getElem_drop]
   unfold byB
   rw[show (a+k) / 256=i by omega,show (a+k)%256=o+k by omega,List.getD_eq_getElem?_getD,List.getElem?_eq_getElem (by omega)];rfl
end
def keyB (M:Nat->Option (List Int)) (i:Nat):Int:=if (M i).isSome then 1 else 0
def farB (M:Nat->Option (List Int)):Nat->Nat
 |0=>0
 |k+1=>if (M k).isSome/\10<=k then 1 else farB M k
def usedB (M:Nat->Option (List Int)):Nat:=cntX (keyB M) 138+farB M 138
theorem keyB_ne {M:Nat->Option (List Int)}{i:Nat}:keyB M i≠0 ↔ (M i).isSome=true:=by
 unfold keyB
 by_cases h:(M i).isSome=true
 · rw[if_pos h];exact ⟨fun _=>h,fun _=>by decide⟩
 · rw[if_neg h];exact ⟨fun e=>absurd rfl e,fun e=>absurd e h⟩
theorem farB_one {M:Nat->Option (List Int)}:∀ k,(∃ b:Nat,10<=b/\b<k/\(M b).isSome=true)->farB M k=1
 |0,⟨b,_,h,_⟩=>absurd h (Nat.not_lt_zero _)
 |k+1,⟨b,h1,h2,h3⟩=>by
  unfold farB
  split
  · rfl
  · next hn=>
    refine farB_one k ⟨b,h1,?_,h3⟩
    have:b≠k:=fun e=>hn ⟨e ▸ h3,e ▸ h1⟩
    omega
theorem farB_zero {M:Nat->Option (List Int)}:∀ k,(¬ ∃ b:Nat,10<=b/\b<k/\(M b).isSome=true)->farB M k=0
 |0,_=>rfl
 |k+1,h=>by
  unfold farB
  rw[if_neg (fun e=>h ⟨k,e.2,by omega,e.1⟩)]
  exact farB_zero k fun ⟨b,h1,h2,h3⟩=>h ⟨b,h1,by omega,h3⟩
theorem farB_le (M:Nat->Option (List Int)) (k:Nat):farB M k<=1:=by
 by_cases h:∃ b:Nat,10<=b/\b<k/\(M b).isSome=true
 · rw[farB_one k h];exact Nat.le_refl 1
 · rw[farB_zero k h];exact Nat.zero_le _
theorem cntX_mono {f g:Nat->Int}:∀ k,(∀ i,i<k->f i≠0->g i≠0)->cntX f k<=cntX g k
 |0,_=>Nat.le_refl _
 |k+1,h=>by
  have ih:=cntX_mono (f:=f) (g:=g) k fun i hi=>h i (by omega)
  have:=h k (by omega)
  unfold cntX
  by_cases e:f k=0
  · rw[if_neg (by simp[e])];omega
  · rw[if_pos e,if_pos (this e)];omega
theorem usedB_mono {M M':Nat->Option (List Int)} (h:∀ i,i<138->(M i).isSome=true->(M' i).isSome=true):usedB M<=usedB M':=by
 unfold usedB
 have h1:=cntX_mono (f:=keyB M) (g:=keyB M') 138 fun i hi e=>keyB_ne.2 (h i hi (keyB_ne.1 e))
 have h2:farB M 138<=farB M' 138:=by
  by_cases e:∃ b:Nat,10<=b/\b<138/\(M b).isSome=true
  · obtain ⟨b,a1,a2,a3⟩:=e
    rw[farB_one 138 ⟨b,a1,a2,a3⟩,farB_one 138 ⟨b,a1,a2,h b a2 a3⟩];exact Nat.le_refl _
  · rw[farB_zero 138 e];exact Nat.zero_le _
 omega
theorem usedB_congr {M M':Nat->Option (List Int)} (h:∀ i,i<138->((M i).isSome=true ↔ (M' i).isSome=true)):usedB M=usedB M':=
 Nat.le_antisymm (usedB_mono fun i hi=>(h i hi).1) (usedB_mono fun i hi=>(h i hi).2)
theorem some_wrL:∀ (l:List Int) (M:Nat->Option (List Int)) (a:Nat) (i:Nat),(M i).isSome=true->(wrL M a l i).isSome=true
 |[],_,_,_,h=>h
 |v :: l,M,a,i,h=>some_wrL l _ (a+1) i (by
    unfold wr1 updB
    split
    · rfl
    · exact h)
section
variable {w:World}{P:Nat->Prop}{d p:Value}{X:XSt}{O D:List (Int × Int)}{k:Nat}
theorem spRead_row {g:Nat} (h:SInv w P d p X) (hH:Has X.cur O k) (hO:OOk O k) (hg:g<k):
 Calls Tryz.prog 55 #[p,.int .i64 g] w fun e w'=>∃ b cap cur,e=.returned (.tuple #[.slice (some ⟨b,0,none⟩) 64 cap,.int .i64 0])/\w.heap.size<=b/\w'.heap[b]? =some (.cells cur 109 (0,0))/\cur.toList.take ((grO O g).length*2)=ownC (grO O g)/\(grO O g).length*2<=cur.size/\64<=cap/\cap<=maxLen/\cur.size=cap*2/\Below w.heap.size w w':=by
 refine (spRead_at h hH hO hg).mono fun e w' ⟨b,cap,he,hb,hbl,hv,_,hbe⟩=>?_
 have hl:=grO_length hO.len hg
 rcases hv.2.2 with ⟨e0,_⟩| ⟨g',cap',cur,ev,_,hh,hnc,hcm,hcs,ht⟩
 · cases e0
 · injection ev with e1 _ e3
   injection e1 with e1
   injection e1 with e1
   subst e1;subst e3
   exact ⟨b,cap,cur,he,hb,hh,ht,by omega,by omega,hcm,hcs,hbe⟩
theorem owSl_row {w:World}{b cap:Nat}{cur:Array Value}{D:List (Int × Int)} (hB:OwB D) (hD:D.length=64) (hh:w.heap[b]? =some (.cells cur 109 (0,0))) (ht:cur.toList.take (D.length*2)=ownC D) (h64:64<=cap) (hm:cap<=maxLen) (hs:cur.size=cap*2):OwSl w (.slice (some ⟨b,0,none⟩) 64 cap) D:=by
 have:OwR w 0 (.slice (some ⟨b,0,none⟩) 64 cap) D:=⟨hB,by rw[ownC_length],.inr ⟨b,cap,cur,by rw[hD],Nat.zero_le _,hh,by omega,hm,hs,ht⟩⟩
 exact this.sl
theorem spSet_yes (h:SInv w P d p X) (hw:X.wi=true) (hp0:X.put.length<=35) (hH:Has X.call O k) (hO:OOk O k) {n:Nat} (hn:n<64*k) (hx:fixB (n:Int)=false) {i j:Int} (hi:0<=i/\i<=65535) (hj:0<=j/\j<=65535) (hf:frmO i j=true) (hne:i≠65535):
 Calls Tryz.prog 193 #[p,.int .i64 n,.agg #[.int .u16 i,.int .u16 j]] w fun e w'=>e=.returned (.int .i64 0)/\∃ P',SInv w' P' d p (putX X (n / 64) (grO (O.set n (i,j)) (n / 64)))/\Chg P P' w w':=by
 have h12:=hO.k12
 have hcur:X.cur=X.call:=by unfold XSt.cur;rw[if_pos hw]
 have hH':Has X.cur O k:=by rw[hcur];exact hH
 obtain ⟨g,hg⟩:∃ g,g=n / 64:=⟨_,rfl⟩
 obtain ⟨t,ht⟩:∃ t,t=n%64:=⟨_,rfl⟩
 have hgk:g<k:=by omega
 have ht64:t<64:=by omega
 have hO2:=hO.set hn hx hi hj hf hne
 have eD:grO (O.set n (i,j)) (n / 64)=(grO O g).set t (i,j):=by rw[hg,ht];exact grO_set_self O n (i,j)
 obtain ⟨D,hD⟩:∃ D,D=(grO O g).set t (i,j):=⟨_,rfl⟩
 rw[eD,<- hD,<- hg]
 obtain ⟨dB,dA,_⟩:=hO2.gr (g:=n / 64) (by omega)
 rw[eD,<- hD] at dB dA
 have gL:=grO_length hO.len hgk
 have dL:D.length=64:=allO_len dA
 have hlen:X.is.length=64*k:=by
  obtain ⟨_,_,_,_,_,_,_,_,_,_,_,_,_,hpl,_⟩:=h
  rw[<- hpl.ok.curLen];exact hH'.len
 have KO:=Lib.hid (spOpen_is (n:Int) (by omega) true (by unfold openN;rw[decide_eq_true (by omega),hx];rfl))
 have KF:=Lib.hid (grForm_is i j hi hj true hf)
 have KG:=Lib.hid (fun (W:World)=>gGroup_any (n:Int) (by omega) W)
 have eg:grpI (n:Int)=g:=by unfold grpI;rw[if_neg (by omega)];omega
 rw[eg] at KG
 have hb1:=below_box w (.cells #[.int .u16 i,.int .u16 j] 109)
 have hr1:=heap_alloc_new w (.cells #[.int .u16 i,.int .u16 j] 109)
 obtain ⟨W1,hW1⟩:∃ W1,W1=w.alloc (.cells #[.int .u16 i,.int .u16 j] 109):=⟨_,rfl⟩
 rw[<- hW1] at hb1 hr1
 have hz1:w.heap.size<W1.heap.size:=by rw[hW1];simp
 have KR:Hid (∀ W,Below w.heap.size w W->Calls Tryz.prog 55 #[p,.int .i64 g] W _):=Lib.hid fun W hb=>spRead_row (h.low hb) hH' hO hgk
 have hlt:=h.lt
 have HFIN:Hid (∀ (W w':World) (b cap:Nat) (cur cur':Array Value),Below w.heap.size w W->w.heap.size<=b->Wrote W w' b->w'.heap[b]? =some (.cells cur' 109 (0,0))->cur'.size=cur.size->cur'.toList.take ((grO O g).length*2)=ownC ((grO O g).set t (i,j))->64<=cap->cap<=maxLen->cur.size=cap*2->
  Below w.heap.size w w'/\SInv w' P d p X/\OwSl w' (.slice (some ⟨b,0,none⟩) 64 cap) D):=Lib.hid fun W w' b cap cur cur' hb hwb hwr hh hs ht' h64 hcm hcs=>by
  have hbe:=hb.trans (hwr.below hwb)
  exact ⟨hbe,h.low hbe,owSl_row dB dL hh (by rw[dL,hD,<- ht',gL]) h64 hcm (by omega)⟩
 have KW2:Hid (∀ (W:World) (v:Value),SInv W P d p X->OwSl W v D->Calls Tryz.prog 207 #[p,.int .i64 g,v] W fun e w'=>e=.returned (.int .i64 0)/\∃ P',SInv w' P' d p (putX X g D)/\Chg P P' W w'):=Lib.hid fun W v hi hs=>spWrite_of hi hw hp0 hlen h12 hgk hs dA
 have H1:=Lib.hid hW1.symm
 have HR1:=Lib.hid hr1
 have HB1:=Lib.hid hb1
 have hrem:(n:Int).tmod 64=t:=by rw[Int.tmod_eq_emod_of_nonneg (by omega)];omega
 have et:(t:Int)<64:=by omega
 have HM:Hid (w.heap.size<W1.heap.size):=Lib.hid hz1
 have HTL:Hid (t<(grO O g).length):=Lib.hid (by omega)
 have hib:(i==65535)=false:=by simpa using hne
 have cells2:Hid (∀ W,Below W1.heap.size W1 W->W.cell? ⟨w.heap.size,0,none⟩=some (.int .u16 i)/\W.cell? ⟨w.heap.size,1,none⟩=some (.int .u16 j)):=Lib.hid fun W hb=>by
  have hr:=below_hold hr1 hb
  exact ⟨cell_of_row _ _ _ _ _ _ hr,cell_of_row _ _ _ _ _ _ hr⟩
 clear h hw hp0 hH hO hn hx hi hj hf hne h12 hcur hH' hg ht hgk ht64 hO2 eD hD dB dA gL dL hlen eg hW1 hr1 hb1 hz1 hlt
 go_enter Tryz.func193,Tryz.ntmps193
 go_wp2_with (first
  |(go_at_call 191;refine (KO.out _).mono ?_;rintro e w' ⟨rfl,rfl⟩)
  |(go_at_call 179;rw[H1.out];refine (KF.out _).mono ?_;rintro e w2 ⟨rfl,hb2⟩;obtain ⟨c20,c21⟩:=cells2.out _ hb2;have hb02:=HB1.out.trans (hb2.mono (Nat.le_of_lt HM.out)))
  |(go_at_call 180;refine (KG.out _).mono ?_;rintro e w' ⟨rfl,rfl⟩)
  |(go_at_call 55;refine (KR.out _ hb02).mono ?_;rintro e w3 ⟨b,cap,cur,rfl,hbb,hg3,ht3,hs3,h64,hcm,hcs,hb3⟩;have hb13:=hb2.trans (hb3.mono hb2.size);obtain ⟨c30,c31⟩:=cells2.out _ hb13;have hb03:=hb02.trans (hb3.mono hb02.size);have hwb:=Nat.le_trans hb02.size hbb)
  |(with_reducible refine wpList_store_owp rfl (.tmp 38) (.tmp 37) rfl b t (grO O g) cur i j rfl rfl hg3 ht3 hs3 HTL.out ?_;intro w4 cur4 hw4 hg4 hs4 ht4
    obtain ⟨hb04,hi4,ho4⟩:=HFIN.out w3 w4 b cap cur cur4 hb03 hwb hw4 hg4 hs4 ht4 h64 hcm hcs
    clear hw4 hg4 hs4 ht4)
  |(go_at_call 207;refine (KW2.out _ _ hi4 ho4).mono ?_;rintro e w5 ⟨rfl,P5,hi5,hc5⟩))
 go_ret
 exact ⟨rfl,P5,hi5,(Chg.of_below hb04).trans hc5⟩
end
theorem cntU_all {O:List (Int × Int)}:∀ L,(∀ j,j<L->freeJ O j=false)->cntU O L=cntO L
 |0,_=>rfl
 |L+1,h=>by
  have ih:=cntU_all L fun j hj=>h j (by omega)
  have h1:=h L (by omega)
  unfold cntU cntO
  rw[ih,h1]
  cases fixB (L:Int) <;> simp
theorem findS_cases (O:List (Int × Int)) (L g:Nat):(∃ k,k<L/\freeJ O ((g+k)%L)=true/\findS O L g=(((g+k)%L:Nat):Int))\/(∀ k,k<L->freeJ O ((g+k)%L)=false):=by
 unfold findS
 cases hf:(List.range L).find? (fun k=>freeJ O ((g+k)%L)) with
 |some k=>exact .inl ⟨k,List.mem_range.1 (List.mem_of_find?_eq_some hf),by simpa using List.find?_some hf,rfl⟩
 |none=>
  refine .inr fun k hk=>?_
  have:=List.find?_eq_none.1 hf k (List.mem_range.2 hk)
  simpa using this
theorem find_free {O:List (Int × Int)}{k m g:Nat} (hO:OOk O k) (hm1:1<=m) (hm:m<=k) (hg:g<64*m) (hc:(cntU O (64*m):Int)<62*(m:Int)-42):∃ f:Nat,f<64*m/\findS O (64*m) g=f/\freeJ O f=true/\fixB (f:Int)=false:=by
 have h12:=hO.k12
 have fixed:∀ f,f<64*k->freeJ O f=true->fixB (f:Int)=false:=fun f hf hr=>by
  have h1:=hO.fx f hf
  have h2:(O.getD f (0,0)).1=0:=of_decide_eq_true hr
  rw[h2] at h1
  exact h1.symm.trans (by decide)
 rcases findS_cases O (64*m) g with ⟨i,hi,hr,e⟩|hn
 · have hl:(g+i)%(64*m)<64*m:=Nat.mod_lt _ (by omega)
   exact ⟨_,hl,e,hr,fixed _ (by omega) hr⟩
 · have hall:∀ j,j<64*m->freeJ O j=false:=fun j hj=>by
    by_cases hjg:g<=j
    · have:=hn (j-g) (by omega)
      rwa [show g+(j-g)=j by omega,Nat.mod_eq_of_lt hj] at this
    · have:=hn (64*m-g+j) (by omega)
      rwa [show g+(64*m-g+j)=j+64*m by omega,Nat.add_mod_right,Nat.mod_eq_of_lt hj] at this
   have:=cntU_all _ hall
   have h2:=cntO_mul m hm1 (by omega)
   omega
section
variable {w:World}{P:Nat->Prop}{d p:Value}{X:XSt}{O D:List (Int × Int)}{k:Nat}
theorem spGive_yes (h:SInv w P d p X) (hw:X.wi=true) (hp0:X.put.length<=35) (hH:Has X.call O k) (hO:OOk O k) {n:Nat} (hn:n<64*k) (hx:fixB (n:Int)=false) (hf:freeJ O n=false):
 Calls Tryz.prog 157 #[p,.int .i64 n] w fun e w'=>e=.returned (.int .i64 0)/\∃ P',SInv w' P' d p (putX X (n / 64) (grO (O.set n (0,0)) (n / 64)))/\Chg P P' w w':=by
 have h12:=hO.k12
 have hcur:X.cur=X.call:=by unfold XSt.cur;rw[if_pos hw]
 have hH':Has X.cur O k:=by rw[hcur];exact hH
 have h2:(O.getD n (0,0)).1≠0:=of_decide_eq_false hf
 have KO:=Lib.hid (spOpen_is (n:Int) (by omega) true (by unfold openN;rw[decide_eq_true (by omega),hx];rfl))
 have KW:=Lib.hid (spOwner_yes h hH' hO hn)
 obtain ⟨x,hxx⟩:∃ x,x=(O.getD n (0,0)).1:=⟨_,rfl⟩
 obtain ⟨y,hyy⟩:∃ y,y=(O.getD n (0,0)).2:=⟨_,rfl⟩
 rw[<- hxx,<- hyy] at KW
 rw[<- hxx] at h2
 have KF:=Lib.hid (spFree_is x y false (by rw[freeP,show (x==0)=false by simpa using h2];rfl))
 have KS:Hid (∀ W,Below w.heap.size w W->Calls Tryz.prog 193 #[p,.int .i64 n,.agg #[.int .u16 0,.int .u16 0]] W fun e w'=>e=.returned (.int .i64 0)/\∃ P',SInv w' P' d p (putX X (n / 64) (grO (O.set n (0,0)) (n / 64)))/\Chg P P' W w'):=Lib.hid fun W hb=>spSet_yes (h.low hb) hw hp0 hH hO hn hx (by decide) (by decide) (by decide) (by decide)
 clear h hw hp0 hH hO hn hx hf h12 hcur hH' h2 hxx hyy
 go_enter Tryz.func157,Tryz.ntmps157
 go_wp2_with (first
  |(go_at_call 191;refine (KO.out _).mono ?_;rintro e w' ⟨rfl,rfl⟩)
  |(go_at_call 192;refine KW.out.mono ?_;rintro e w1 ⟨rfl,hb1⟩;have hb2:=below_box w1 (.cells #[.int .u16 x,.int .u16 y] 109))
  |(go_at_call 57;refine (KF.out _).mono ?_;rintro e w3 ⟨rfl,hb3⟩;have hb03:=(hb1.trans (hb2.mono hb1.size)).trans (hb3.mono (Nat.le_trans hb1.size hb2.size)))
  |(go_at_call 193;refine (KS.out _ hb03).mono ?_;rintro e w4 ⟨rfl,P4,hi4,hc4⟩))
 go_ret
 exact ⟨rfl,P4,hi4,(Chg.of_below hb03).trans hc4⟩
end
end Go.Proofs.YtedabomlfcghoaaGreat
namespace Go.Proofs.YtedabomlfcghoaaGreat
set_option maxRecDepth 100000
open Go.RowKit
section
variable {P:Program}{ops:Array Oper}{Q:Exit->Act->World->Prop}{md:Region.Mode}{S:World->Prop}{m:Nat}
def Till (m:Nat) (S:World->Prop) (L:Array Bool) (w:World):Prop:=L.getD m true=false->S w
def anyTill (P:Program) (md:Region.Mode) (ops:Array Oper) (Q:Exit->Act->World->Prop) (S:World->Prop) (m:Nat):Nat->Array Bool->Act->World->Prop
 |0,L,a,w=>Region.ready md ops L=[]/\Q .normal a w
 |n+1,L,a,w=>(Region.ready md ops L=[]->Q .normal a w)/\∀ i∈Region.ready md ops L,wpOp P ops Q i (fun a' w'=>Till m S (L.setIfInBounds i true) w'/\anyTill P md ops Q S m n (L.setIfInBounds i true) a' w') a w
theorem any_of_till:∀ (n:Nat) (L:Array Bool) (a:Act) (w:World),anyTill P md ops Q S m n L a w->wpAny P md ops Q n L a w
 |0,_,_,_,h=>h
 |n+1,_,_,_,h=>⟨h.1,fun i hi=>wpOp_mono (fun _ _ k=>any_of_till n _ _ _ k.2) (h.2 i hi)⟩
theorem ready_un {L:Array Bool}{i:Nat} (h:i∈Region.ready md ops L):L.getD i true=false/\L.getD i false=false:=by
 have h0:=(mem_ready.1 h).1
 refine ⟨h0,?_⟩
 rcases Nat.lt_or_ge i L.size with hl|hl
 · simp[hl] at h0 |-;exact h0
 · simp[Array.getElem?_eq_none hl] at h0
theorem till_first {i:Nat}{oi om:Oper}{v:Value} (hi:ops[i]? =some oi) (hm:ops[m]? =some om) (hwt:∃ e∈om.after,Region.binds md e=true/\e.on=i)
 (hsel:∀ (j:Nat) (o:Oper) cs b,ops[j]? =some o->o.op≠.select cs b) (hQ:∀ c a w,Q (.panic c) (a.put oi.dst v) w->Q (.panic c) a w):
 ∀ (n:Nat) (L:Array Bool) (a:Act) (w:World),(∀ j oj,ops[j]? =some oj->j≠i->L.getD j true=false->(∀ e∈oj.after,Region.binds md e=true->e.on≠i)->oi.apart ops oj=true)->
   i∈Region.ready md ops L->L.getD m true=false->YieldsIf P ops S oi v a->S w->
   anyTill P md ops Q S m n (L.setIfInBounds i true) (a.put oi.dst v) w->anyTill P md ops Q S m (n+1) L a w
 |n,L,a,w,hfree,hr,hLm,hy,hS,H=>by
  refine ⟨fun h=>(by rw[h] at hr;cases hr),fun j hj=>?_⟩
  by_cases hji:j=i
  · subst hji
    exact hy.wpOp hi hS ⟨fun _=>hS,H⟩
  · obtain ⟨hjun,oj,hoj,hall⟩:=mem_ready.1 hj
    have hun:=(ready_un hr).2
    have hno:∀ e∈oj.after,Region.binds md e=true->e.on≠i:=fun e he hb heq=>by
     have h1:=hall e he hb
     rw[heq,hun] at h1
     cases h1
    have hjm:j≠m:=fun e=>by
     subst e
     obtain ⟨e,he,hb,hei⟩:=hwt
     rw[hm] at hoj
     obtain rfl:=Option.some.inj hoj
     exact hno e he hb hei
    cases n with
    |zero=>
     have h1:=ready_mono hj hji
     rw[H.1] at h1
     cases h1
    |succ n=>
     have h2:=wpOp_putIf hoj (hfree j oj hoj hji hjun hno) (fun cs b=>hsel i oi cs b hi) (fun cs b=>hsel j oj cs b hoj) hQ hy (H.2 j (ready_mono hj hji))
     refine wpOp_mono (fun a' w' h3=>?_) h2
     obtain ⟨hy',hT,hA⟩:=h3
     have him:i≠m:=fun e=>by
      subst e
      obtain ⟨e,he,hb,hei⟩:=hwt
      obtain ⟨_,o,ho,hal⟩:=mem_ready.1 hr
      rw[hm] at ho
      obtain rfl:=Option.some.inj ho
      have h1:=hal e he hb
      rw[hei,hun] at h1
      cases h1
     have hLm':(L.setIfInBounds j true).getD m true=false:=by rw[getD_set_ne true hjm];exact hLm
     rw[Array.setIfInBounds_comm _ _ (Ne.symm hji)] at hT hA
     have hS':S w':=hT (by rw[getD_set_ne true him];exact hLm')
     refine ⟨fun _=>hS',till_first hi hm hwt hsel hQ n _ a' w' (fun k ok hk hki hku hkn=>?_) (ready_mono hr (Ne.symm hji)) hLm' hy' hS' hA⟩
     refine hfree k ok hk hki ?_ hkn
     by_cases hjk:j=k
     · subst hjk;exact hjun
     · rw[getD_set_ne true hjk] at hku;exact hku
theorem till_take {i:Nat}{oi om:Oper}{v:Value}{n:Nat}{L:Array Bool}{a:Act}{w:World} (hi:ops[i]? =some oi) (hm:ops[m]? =some om) (hwt:om.after.any (fun e=>Region.binds md e && e.on==i)=true)
 (hs:Region.noSelect ops=true) (hf:Region.free md ops L i=true) (hr:(Region.ready md ops L).contains i=true) (hLm:L.getD m true=false)
 (hQ:∀ c a w,Q (.panic c) (a.put oi.dst v) w->Q (.panic c) a w) (hy:YieldsIf P ops S oi v a) (hS:S w)
 (h:anyTill P md ops Q S m n (L.setIfInBounds i true) (a.put oi.dst v) w):anyTill P md ops Q S m (n+1) L a w:=
 till_first hi hm (by
  obtain ⟨e,he,hb⟩:=Array.any_eq_true'.1 hwt
  simp only[Bool.and_eq_true,beq_iff_eq] at hb
  exact ⟨e,he,hb.1,hb.2⟩) (Region.noSelect_spec hs) hQ n L a w (Region.free_spec hi hf) (by simpa using hr) hLm hy hS h
def TillReady (P:Program) (md:Region.Mode) (ops:Array Oper) (Q:Exit->Act->World->Prop) (S:World->Prop) (m n:Nat) (L:Array Bool) (a:Act) (w:World) (rs:List Nat):Prop:=
 ∀ i∈rs,wpOp P ops Q i (fun a' w'=>Till m S (L.setIfInBounds i true) w'/\anyTill P md ops Q S m n (L.setIfInBounds i true) a' w') a w
theorem TillReady.nil {n:Nat}{L:Array Bool}{a:Act}{w:World}:TillReady P md ops Q S m n L a w []:=fun _ h=>by cases h
theorem TillReady.cons {n:Nat}{L:Array Bool}{a:Act}{w:World}{i:Nat}{o:Oper}{rs:List Nat} (ho:ops[i]? =some o)
 (h:∀ K:Act->World->Prop,Hid (∀ a w,Till m S (L.setIfInBounds i true) w->anyTill P md ops Q S m n (L.setIfInBounds i true) a w->K a w)->if Region.wanted o (yielded ops a.tmps)=true then Oper.wp P o a w K Q else K (a.put o.dst undef) w)
 (hs:TillReady P md ops Q S m n L a w rs):TillReady P md ops Q S m n L a w (i :: rs):=fun j hj=>by
 rcases List.mem_cons.1 hj with rfl|hj
 · exact wpOp_step ho (fun K hK=>h K (fun a w hT hA=>hK a w ⟨hT,hA⟩))
 · exact hs j hj
theorem till_ready {rs:List Nat}{n:Nat}{L:Array Bool}{a:Act}{w:World} (hr:Region.ready md ops L=rs) (hne:rs≠[]) (h:TillReady P md ops Q S m n L a w rs):anyTill P md ops Q S m (n+1) L a w:=
 ⟨fun h0=>absurd (hr ▸ h0) hne,hr ▸ h⟩
theorem till_done {L:Array Bool}{a:Act}{w:World} (hr:Region.ready md ops L=[]) (h:Q .normal a w):∀ n,anyTill P md ops Q S m n L a w
 |0=>⟨hr,h⟩
 |_+1=>⟨fun _=>h,by rw[hr];simp⟩
end
def tabJ (k:Nat) (j:Nat):Int × Int:=if fixB (j:Int)=true then (65535,0) else if 43<=j/\j<49/\j<k then (65534,(j:Int)-43) else (0,0)
def tabN (k L:Nat):List (Int × Int):=(List.range L).map (tabJ k)
def newO (K:Nat):List (Int × Int):=tabN (64*K) (64*K)
theorem tabN_length (k L:Nat):(tabN k L).length=L:=by simp[tabN]
theorem tabN_getD (k L j:Nat) (h:j<L):(tabN k L).getD j (0,0)=tabJ k j:=by simp[tabN,List.getD_eq_getElem?_getD,h]
theorem tabN_fresh (g:Nat):tabN 0 (64*(g+1))=tabN 0 (64*g) ++ freshK (g:Int) 64:=by
 apply List.ext_getElem (by simp[tabN,freshK_length];omega)
 intro i h1 h2
 rw[tabN_length] at h1
 rw[List.getElem_append]
 split
 · simp[tabN]
 · next h=>
   rw[tabN_length] at h
   simp only[tabN,freshK,List.getElem_map,List.getElem_range,List.length_map,List.length_range]
   unfold tabJ freshJ
   have e:64*(g:Int)+((i-64*g:Nat):Int)=(i:Int):=by omega
   rw[e]
   cases fixB (i:Int) <;> simp
theorem fix_tab {j:Nat}:(j<43->fixB (j:Int)=true)/\(43<=j->j<49->fixB (j:Int)=false):=by
 unfold fixB
 exact ⟨fun h=>decide_eq_true (by omega),fun h1 h2=>decide_eq_false (by omega)⟩
theorem tabN_set (k L:Nat) (h1:43<=k) (h2:k<49):(tabN k L).set k (65534,(k:Int)-43)=tabN (k+1) L:=by
 apply List.ext_getElem (by simp[tabN])
 intro i h3 h4
 simp only[tabN,List.getElem_set,List.getElem_map,List.getElem_range]
 unfold tabJ
 have hf:=(fix_tab (j:=k)).2 h1 h2
 by_cases e:k=i
 · subst e;rw[if_pos rfl,hf];simp;omega
 · rw[if_neg e]
   by_cases hi:fixB (i:Int)=true
   · rw[if_pos hi,if_pos hi]
   · rw[if_neg hi,if_neg hi]
     by_cases hc:43<=i/\i<49/\i<k
     · rw[if_pos hc,if_pos (by omega)]
     · rw[if_neg hc,if_neg (by omega)]
theorem tabN_same (k L:Nat) (h:k<43\/49<=k):tabN k L=tabN (k+1) L:=by
 unfold tabN
 apply List.map_congr_left
 intro i _
 unfold tabJ
 by_cases hi:fixB (i:Int)=true
 · rw[if_pos hi,if_pos hi]
 · rw[if_neg hi,if_neg hi]
   by_cases hc:43<=i/\i<49/\i<k
   · rw[if_pos hc,if_pos (by omega)]
   · rw[if_neg hc,if_neg (by omega)]
theorem tabJ_bd (k j:Nat):(0<=(tabJ k j).1/\(tabJ k j).1<=65535)/\(0<=(tabJ k j).2/\(tabJ k j).2<=65535):=by
 unfold tabJ;split
 · decide
 · split
   · next h=>simp only;omega
   · decide
theorem newO_ok {K:Nat} (h1:1<=K) (h2:K<=12):OOk (newO K) K:=by
 refine ⟨tabN_length _ _,h1,h2,owB_of fun j hj=>?_,fun j hj=>?_,fun j hj=>?_⟩
 · unfold newO at hj |-
   rw[tabN_length] at hj
   rw[tabN_getD _ _ _ hj];exact tabJ_bd _ _
 · unfold frmJ newO
   rw[tabN_getD _ _ _ hj]
   unfold tabJ
   split
   · decide
   · split
     · next h=>
       obtain ⟨m,hm⟩:∃ m:Nat,m=j-43:=⟨_,rfl⟩
       have e:(j:Int)-43=m:=by omega
       have hm6:m<6:=by omega
       simp only[e]
       clear hm e h
       revert m;decide
     · decide
 · unfold newO
   rw[tabN_getD _ _ _ hj]
   unfold tabJ
   split
   · next h=>rw[h];rfl
   · next h=>
     rw[Bool.not_eq_true] at h
     rw[h]
     split <;> rfl
theorem step_append_ows {ops:Array Oper}{o:Oper}{a:Act}{w:World}{K:Act->World->Prop}{Q:Exit->Act->World->Prop}{E:Prop} (hgd:o.guard=none) (s x:Operand)
 (ho:o.op=.call { callee:=.builtin .append,args:=#[s,x],argTypes:=#[105,105] }) (hty:o.type=105)
 (B:Nat) (v:Value) (O:List (Int × Int)) (hs:a.eval s=v) (hown:OwR w B v O) (hO:O.length<=1000000) (u:Value) (D:List (Int × Int)) (hx:a.eval x=u) (hD:OwSl w u D) (hDl:0<D.length/\D.length<=1000) (hB:B<=w.heap.size)
 (h:∀ v' w',OwR w' B v' (O ++ D)->Below B w w'->K (a.put o.dst v') w'):if Region.wanted o (yielded ops a.tmps)=true then Oper.wp Tryz.prog o a w K Q else E:=by
 obtain ⟨t,h2,h3,h4,h5⟩:=info_parts infoOw
 obtain ⟨b,off,cap,rfl,hb,hc⟩:=hD.at hDl.1
 refine step_append_lies w hgd s x 105 ho B 109 t _ 2 4 Tryz.underlying105 h2 h3 h4 h5 rfl (by decide) v O.length (ownC O) hs hown.2 ⟨b,off,none⟩ D.length cap (ownC D) hx (ownC_length D) ?_ ?_ hDl.1 (by simp only[maxLen];omega) (by omega) hB w.heap.size rfl ?_
 · intro j u hj
   have hjl:j<D.length*2:=by rw[<- ownC_length];exact (List.getElem?_eq_some_iff.1 hj).1
   obtain ⟨i,hi⟩:∃ i,i=j / 2:=⟨_,rfl⟩
   obtain ⟨g1,g2⟩:=ownC_get D i (by omega)
   obtain ⟨k1,k2⟩:=hc i (by omega)
   rw[Addr.add_lit]
   rcases Nat.mod_two_eq_zero_or_one j with e|e
   · obtain rfl:j=i*2:=by omega
     rw[g1] at hj
     rw[k1,<- hj]
   · obtain rfl:j=i*2+1:=by omega
     rw[g2] at hj
     rw[<- Nat.add_assoc,k2,<- hj]
 · intro u hu
   obtain ⟨j,hj⟩:=List.getElem?_of_mem hu
   have hjl:j<D.length*2:=by rw[<- ownC_length];exact (List.getElem?_eq_some_iff.1 hj).1
   obtain ⟨i,hi⟩:∃ i,i=j / 2:=⟨_,rfl⟩
   obtain ⟨g1,g2⟩:=ownC_get D i (by omega)
   rcases Nat.mod_two_eq_zero_or_one j with e|e
   · obtain rfl:j=i*2:=by omega
     rw[g1] at hj
     obtain rfl:=Option.some.inj hj;rfl
   · obtain rfl:j=i*2+1:=by omega
     rw[g2] at hj
     obtain rfl:=Option.some.inj hj;rfl
 · intro g cap' w' hown' hgrow _ _
   refine h _ w' ⟨owB_of fun m hm=>?_,?_⟩ ((Below.refl _ _).grown hgrow hB fun k hk=>(World.ownsRow.lt hown.2 k hk).1)
   · by_cases e:m<O.length
     · have:=hown.1 m
       rw[List.getD_eq_getElem?_getD,List.getElem?_append_left e,<- List.getD_eq_getElem?_getD];exact this
     · have:=hD.1 (m-O.length)
       rw[List.getD_eq_getElem?_getD,List.getElem?_append_right (by omega),<- List.getD_eq_getElem?_getD];exact this
   · rw[List.length_append,ownC_append];exact hown'
theorem rGroups_yes (k:Nat) (h1:1<=k) (h2:k<=12) (w:World):Calls Tryz.prog 76 #[.int .i64 (64*(k:Int))] w fun e w'=>e=.returned (.int .i64 k)/\w=w':=by
 have:=rGroups_any (64*(k:Int)) (by omega) w
 rw[show grsI (64*(k:Int))=k by unfold grsI;rw[if_pos (frm_mk k h1 h2)];omega] at this
 exact this
def NSp (w:World) (b:Nat) (n:Int) (O:List (Int × Int)):Prop:=∃ v,w.heap[b]? =some (.cells #[.int .i64 n,v] 135 (0,0))/\OwR w (b+1) v O
theorem NSp.rsp {w:World}{b:Nat}{n:Int}{O:List (Int × Int)} (h:NSp w b n O):∃ M,RSp w M (.pointer (some ⟨b,0,none⟩)) n O/\∀ x,M x->b<=x:=by
 obtain ⟨v,hb,ho⟩:=h
 refine ⟨fun x=>x=b\/v.ownBlock=some x,⟨b,v,rfl,hb,ho.more (Nat.zero_le _),fun k=>Iff.rfl⟩,fun x hx=>?_⟩
 rcases hx with rfl|hx
 · exact Nat.le_refl _
 · have:=(World.ownsRow.lt ho.2 x hx).1;omega
theorem nsp_store {w:World}{b:Nat}{n:Int}{O:List (Int × Int)}{v v':Value} (hd:w.heap[b]? =some (.cells #[.int .i64 n,v] 135 (0,0))) (ho:OwR w (b+1) v' O):
 NSp (w.setCell ⟨b,1,none⟩ v') b n O/\Below b w (w.setCell ⟨b,1,none⟩ v'):=by
 have hw:=Wrote.setCell w b 1 v'
 refine ⟨⟨v',heap_setCell_same w b 1 _ _ _ hd,ho.1,ownsRow_keep ho.2 fun g hg=>hw.2.2.2.2 g fun e=>?_⟩,hw.below (Nat.le_refl _)⟩
 have:=(World.ownsRow.lt ho.2 g hg).1
 omega
theorem RSp.all {w:World}{M:Nat->Prop}{b:Nat}{n:Int}{O:List (Int × Int)} (h:RSp w M (.pointer (some ⟨b,0,none⟩)) n O) (h0:0<O.length):∃ g cap cur,w.heap[b]? =some (.cells #[.int .i64 n,.slice (some ⟨g,0,none⟩) O.length cap] 135 (0,0))/\w.heap[g]? =some (.cells cur 109 (0,0))/\cur.toList.take (O.length*2)=ownC O/\O.length<=cap/\cap<=maxLen/\cur.size=cap*2/\(∀ k,M k ↔ k=b\/k=g)/\
 (∀ j,j<O.length->w.cell? ⟨g,j*2,none⟩=some (.int .u16 (O.getD j (0,0)).1)/\w.cell? ⟨g,j*2+1,none⟩=some (.int .u16 (O.getD j (0,0)).2)):=by
 obtain ⟨bp,g,off,cap,e1,c0,c1,hc⟩:=h.cells h0
 obtain ⟨b',g',cap',cur,e2,hb,hg,ht,hnc,hcm,hcs,hB,hM⟩:=h.row h0
 obtain rfl:b=b':=by injection e2 with e;injection e with e;injection e with e
 obtain rfl:b=bp:=by injection e1 with e;injection e with e;injection e with e
 have c1':w.cell? ⟨b,1,none⟩=some (.slice (some ⟨g',0,none⟩) O.length cap'):=by rw[cell_of_row _ _ _ _ _ _ hb];rfl
 obtain ⟨rfl,rfl,rfl⟩:g=g'/\off=0/\cap=cap':=by
  rw[c1'] at c1
  injection c1 with c1
  injection c1 with a1 _ a3
  injection a1 with a1
  injection a1 with a1 a2
  exact ⟨a1.symm,a2.symm,a3.symm⟩
 refine ⟨g,cap,cur,hb,hg,ht,hnc,hcm,hcs,hM,fun j hj=>?_⟩
 have:=hc j hj
 rwa [Nat.zero_add] at this
def atN (k:Nat):Int:=if k<=43 then 0 else if k<49 then (k:Int)-43 else 6
theorem atN_lo {k:Nat} (h:k<43):atN k=0/\atN (k+1)=0:=by unfold atN;rw[if_pos (by omega),if_pos (by omega)];exact ⟨rfl,rfl⟩
theorem atN_hi {k:Nat} (h:49<=k):atN k=6/\atN (k+1)=6:=by unfold atN;rw[if_neg (by omega),if_neg (by omega),if_neg (by omega),if_neg (by omega)];exact ⟨rfl,rfl⟩
theorem atN_mid {k:Nat} (h:43<=k) (h2:k<49):atN k=(k:Int)-43/\atN (k+1)=(k:Int)-43+1:=by
 unfold atN
 refine ⟨?_,?_⟩
 · by_cases e:k=43
   · subst e;rfl
   · rw[if_neg (by omega),if_pos h2]
 · rw[if_neg (by omega)]
   by_cases e:k=48
   · subst e;rfl
   · rw[if_pos (by omega)];omega
set_option maxHeartbeats 8000000 in
theorem rSpNew_is {kk:Nat} (h1:1<=kk) (h2:kk<=12) (w:World):Calls Tryz.prog 75 #[.int .i64 (64*(kk:Int))] w fun e w'=>∃ p M,e=.returned p/\RSp w' M p (64*(kk:Int)) (newO kk)/\(∀ x,M x->w.heap.size<=x)/\Below w.heap.size w w':=by
 have KG:=Lib.hid (fun (W:World)=>rGroups_yes kk h1 h2 W)
 have hbx:=below_box w (.cells #[.int .i64 (64*(kk:Int)),.slice none 0 0] 135)
 have hnx:=heap_alloc_new w (.cells #[.int .i64 (64*(kk:Int)),.slice none 0 0] 135)
 go_enter Tryz.func75,Tryz.ntmps75
 go_upto_region 2 with (fail)
 generalize w.alloc (.cells #[.int .i64 (64*(kk:Int)),.slice none 0 0] 135)=w1 at hbx hnx |-
 obtain ⟨b,hd⟩:∃ b,b=w.heap.size:=⟨_,rfl⟩
 rw[<- hd] at hnx |-
 have HN0:Hid (NSp w1 b (64*(kk:Int)) (tabN 0 (64*0))):=Lib.hid ⟨_,hnx,owr_nil w1 (b+1)⟩
 have HBW:Hid (Below b w w1):=Lib.hid (by rw[hd];exact hbx)
 have HBD:=Lib.hid hd
 have HB0:Hid (Below b w1 w1/\b<w1.heap.size):=Lib.hid ⟨Below.refl _ _,(Array.getElem?_eq_some_iff.1 hnx).1⟩
 clear hbx hnx hd
 go_wp2_with (go_at_call 76;refine (KG.out _).mono ?_;rintro e w' ⟨rfl,rfl⟩)
 go_loopw [12] (fun i wr=>∃ g:Nat,g<=kk/\i=.int .i64 g/\Hid (NSp wr b (64*(kk:Int)) (tabN 0 (64*g)))/\Hid (Below b w1 wr/\b<wr.heap.size)) (fun i _=>kk-(intOf i).toNat)
 case atStart=>exact ⟨0,by omega,rfl,HN0,HB0⟩
 case round=>
  obtain ⟨g,hg,rfl,HN,HB⟩:=hrel
  clear HN0 HB0
  by_cases hlt:g<kk
  · have eg:(g:Int)<12:=by omega
    have egK:(g:Int)<(kk:Int):=by omega
    obtain ⟨v,hd,ho⟩:=HN.out
    have c1:wr.drew.cell? ⟨b,1,none⟩=some v:=by rw[cell_of_row _ _ _ _ _ _ (show wr.drew.heap[b]? =_ from hd)];rfl
    have KF:=Lib.hid (rrFresh_yes (g:Int) (by omega) (by omega) wr.drew)
    have HD:=Lib.hid (show wr.drew.heap[b]? =some (.cells #[.int .i64 (64*(kk:Int)),v] 135 (0,0)) from hd)
    have HO:=Lib.hid (show OwR wr.drew (b+1) v (tabN 0 (64*g)) from ho)
    have HBL:=Lib.hid (show Below b w1 wr.drew/\b<wr.drew.heap.size from ⟨HB.out.1.drew,HB.out.2⟩)
    have HTL:=Lib.hid (tabN_length 0 (64*g))
    have HFR:=Lib.hid (tabN_fresh g)
    clear hd ho
    go_wp2
    refine wp_region_any (by kernel_rfl) ?_
    (try simp only[Act.put,List.setIfInBounds_toArray,List.set_cons_zero,List.set_cons_succ,List.getElem_toArray,List.getElem_cons_zero,List.getElem_cons_succ])
    refine wpAny_take (i:=0) (v:=(.pointer (some ⟨b,0,none⟩))) rfl (by kernel_rfl) (by kernel_rfl) (by kernel_rfl) (fun _ _ _ h=>h) (Or.inl ⟨by rfl,?_⟩) ?_
    · intro W
      go_simp
    (try simp only[Act.put,List.setIfInBounds_toArray,List.set_cons_zero,List.set_cons_succ,List.getElem_toArray,List.getElem_cons_zero])
    refine wpAny_take (i:=1) (v:=(.pointer (some ⟨b,0,none⟩))) rfl (by kernel_rfl) (by kernel_rfl) (by kernel_rfl) (fun _ _ _ h=>h) (Or.inl ⟨by rfl,?_⟩) ?_
    · intro W
      go_simp
    (try simp only[Act.put,List.setIfInBounds_toArray,List.set_cons_zero,List.set_cons_succ,List.getElem_toArray,List.getElem_cons_zero,List.getElem_cons_succ])
    refine wpAny_take (i:=2) (v:=(.pointer (some ⟨b,0,none⟩))) rfl (by kernel_rfl) (by kernel_rfl) (by kernel_rfl) (fun _ _ _ h=>h) (Or.inl ⟨by rfl,?_⟩) ?_
    · intro W
      go_simp
    (try simp only[Act.put,List.setIfInBounds_toArray,List.set_cons_zero,List.set_cons_succ,List.getElem_toArray,List.getElem_cons_zero,List.getElem_cons_succ])
    refine wpAny_take (i:=3) (v:=(.pointer (some ⟨b,1,none⟩))) rfl (by kernel_rfl) (by kernel_rfl) (by kernel_rfl) (fun _ _ _ h=>h) (Or.inl ⟨by rfl,?_⟩) ?_
    · intro W
      go_simp
    (try simp only[Act.put,List.setIfInBounds_toArray,List.set_cons_zero,List.set_cons_succ,List.getElem_toArray,List.getElem_cons_zero,List.getElem_cons_succ])
    refine wpAny_take (i:=5) (v:=(.int .i64 g)) rfl (by kernel_rfl) (by kernel_rfl) (by kernel_rfl) (fun _ _ _ h=>h) (Or.inl ⟨by rfl,?_⟩) ?_
    · intro W
      go_simp
    (try simp only[Act.put,List.setIfInBounds_toArray,List.set_cons_zero,List.set_cons_succ,List.getElem_toArray,List.getElem_cons_zero,List.getElem_cons_succ])
    refine any_of_till (S:=fun W=>W.cell? ⟨b,1,none⟩=some v) (m:=10) _ _ _ _ ?_
    refine till_take (i:=4) (v:=v) rfl rfl (by kernel_rfl) (by kernel_rfl) (by kernel_rfl) (by kernel_rfl) (by kernel_rfl) (fun _ _ _ h=>h) (Or.inl ⟨by rfl,?_⟩) c1 ?_
    · intro W hS
      go_simp
    (try simp only[Act.put,List.setIfInBounds_toArray,List.set_cons_zero,List.set_cons_succ,List.getElem_toArray,List.getElem_cons_zero,List.getElem_cons_succ])
    refine till_ready (rs:=[6]) (by kernel_rfl) (by simp) (TillReady.cons rfl (fun K hK=>?_) TillReady.nil)
    go_simp
    go_at_call 125
    refine KF.out.mono ?_
    rintro e w3 ⟨u,rfl,hu,hb3⟩
    have d3:=below_hold HD.out hb3
    have c3:w3.cell? ⟨b,1,none⟩=some v:=by rw[cell_of_row _ _ _ _ _ _ d3];rfl
    have hw3:=Nat.lt_of_lt_of_le HBL.out.2 hb3.size
    refine hK.out _ _ (fun _=>c3) ?_
    clear hK K
    (try simp only[Act.put,List.setIfInBounds_toArray,List.set_cons_zero,List.set_cons_succ,List.getElem_toArray,List.getElem_cons_zero,List.getElem_cons_succ])
    refine till_ready (rs:=[7]) (by kernel_rfl) (by simp) (TillReady.cons rfl (fun K hK=>?_) TillReady.nil)
    refine step_append_ows (by rfl) (.tmp 19) (.tmp 21) (by rfl) (by rfl) (b+1) v (tabN 0 (64*g)) (by rfl) (HO.out.below hb3) (by rw[HTL.out];omega) u (freshK g 64) (by rfl) hu.sl (by rw[freshK_length];decide) hw3 ?_
    intro v' w4 ho4 hb4
    obtain ⟨a4,cap4,rfl⟩:=ho4.sl.shape
    obtain ⟨n4,hn4⟩:∃ n4,n4=(tabN 0 (64*g) ++ freshK (g:Int) 64).length:=⟨_,rfl⟩
    rw[<- hn4] at ho4 |-
    clear hn4
    have d4:=(hb4.block b (by omega)).trans d3
    have c4:w4.cell? ⟨b,1,none⟩=some v:=by rw[cell_of_row _ _ _ _ _ _ d4];rfl
    refine hK.out _ _ (fun _=>c4) ?_
    clear hK K
    (try simp only[Act.put,List.setIfInBounds_toArray,List.set_cons_zero,List.set_cons_succ,List.getElem_toArray,List.getElem_cons_zero,List.getElem_cons_succ])
    refine till_ready (rs:=[8]) (by kernel_rfl) (by simp) (TillReady.cons rfl (fun K hK=>?_) TillReady.nil)
    go_simp
    refine hK.out _ _ (fun _=>c4) ?_
    clear hK K
    (try simp only[Act.put,List.setIfInBounds_toArray,List.set_cons_zero,List.set_cons_succ,List.getElem_toArray,List.getElem_cons_zero,List.getElem_cons_succ])
    refine till_ready (rs:=[9]) (by kernel_rfl) (by simp) (TillReady.cons rfl (fun K hK=>?_) TillReady.nil)
    go_simp
    refine hK.out _ _ (fun _=>c4) ?_
    clear hK K
    (try simp only[Act.put,List.setIfInBounds_toArray,List.set_cons_zero,List.set_cons_succ,List.getElem_toArray,List.getElem_cons_zero,List.getElem_cons_succ])
    have hf:=frozen_of_row w4 b 1 _ _ d4
    refine till_ready (rs:=[10]) (by kernel_rfl) (by simp) (TillReady.cons rfl (fun K hK=>?_) TillReady.nil)
    go_simp
    obtain ⟨r1,r2⟩:=nsp_store d4 ho4
    have HN2:Hid (NSp (w4.setCell ⟨b,1,none⟩ (.slice a4 n4 cap4)) b (64*(kk:Int)) (tabN 0 (64*(g+1)))):=Lib.hid (by rw[HFR.out];exact r1)
    have HB2:Hid (Below b w1 (w4.setCell ⟨b,1,none⟩ (.slice a4 n4 cap4))/\b<(w4.setCell ⟨b,1,none⟩ (.slice a4 n4 cap4)).heap.size):=Lib.hid (by
     have hb04:=(HBL.out.1.trans (hb3.mono (Nat.le_of_lt HBL.out.2))).trans (hb4.mono (Nat.le_succ b))
     have hb05:=hb04.trans r2
     refine ⟨hb05,Nat.lt_of_lt_of_le ?_ r2.size⟩
     have:=hb3.size
     have:=hb4.size
     have:=HBL.out.2
     omega)
    clear r1 r2
    generalize w4.setCell ⟨b,1,none⟩ (.slice a4 n4 cap4)=Y at HN2 HB2 |-
    refine hK.out _ _ (fun h=>by cases h) ?_
    clear hK K
    (try simp only[Act.put,List.setIfInBounds_toArray,List.set_cons_zero,List.set_cons_succ,List.getElem_toArray,List.getElem_cons_zero,List.getElem_cons_succ])
    clear hf c4 d4 hb4 ho4 hb3 c3 d3 hw3 hu
    refine till_done (by kernel_rfl) ?_ _
    go_wp2
    go_roundw
    case rel=>exact ⟨g+1,by omega,by go_num,HN2,HB2⟩
    case measure=>simp[intOf];omega
  · obtain rfl:g=kk:=by omega
    obtain ⟨M,hM,hMb⟩:=HN.out.rsp
    have HMB:=Lib.hid hMb
    obtain ⟨L,hL⟩:∃ L,L=64*g:=⟨_,rfl⟩
    have hL1:64<=L:=by omega
    have hL2:L<=768:=by omega
    rw[<- hL] at hM
    have HL0:=Lib.hid hL
    have HM0:Hid (RSp wr M (.pointer (some ⟨b,0,none⟩)) (64*(g:Int)) (tabN 0 L)):=Lib.hid hM
    have HB0:Hid (Below b w1 wr):=Lib.hid HB.out.1
    obtain ⟨g0,cap0,cur0,hb0,_⟩:=hM.all (by rw[tabN_length];omega)
    rw[tabN_length] at hb0
    have c1:wr.cell? ⟨b,1,none⟩=some (.slice (some ⟨g0,0,none⟩) L cap0):=by rw[cell_of_row _ _ _ _ _ _ hb0];rfl
    clear hM hMb hb0 HB HN hL
    go_wp2
    clear c1
    go_loopw [4,31] (fun at' i wr=>∃ k:Nat,k<=L/\i=.int .i64 k/\at'=.int .i64 (atN k)/\Hid (RSp wr M (.pointer (some ⟨b,0,none⟩)) (64*(g:Int)) (tabN k L))/\Hid (Below b w1 wr)) (fun _ i _=>L-(intOf i).toNat)
    case atStart=>exact ⟨0,by omega,rfl,rfl,HM0,HB0⟩
    case round=>
     obtain ⟨k,hk,rfl,rfl,HR,HBR⟩:=hrel
     clear HM0 HB0
     by_cases hkt:k<L
     · obtain ⟨g1,cap1,cur1,hb1,hg1,ht1,hnc1,hcm1,hcs1,hM1,hc1⟩:=HR.out.all (by rw[tabN_length];omega)
       have hck:=(hc1 k (by rw[tabN_length];omega)).1
       rw[tabN_getD _ _ _ hkt] at hck
       have ekt:(k:Int)<(L:Int):=by omega
       have c1:wr.cell? ⟨b,1,none⟩=some (.slice (some ⟨g1,0,none⟩) L cap1):=by rw[tabN_length] at hb1;rw[cell_of_row _ _ _ _ _ _ hb1];rfl
       by_cases h49:49<=k
       · obtain ⟨a1,a2⟩:=atN_hi h49
         have HR2:=HR.out
         rw[tabN_same k L (.inr h49)] at HR2
         have HR3:=Lib.hid HR2
         have HA2:=Lib.hid a2
         rw[a1]
         clear hb1 hg1 ht1 hnc1 hcm1 hcs1 hM1 hc1 hck HR2 a1 a2 HR
         go_wp2
         go_roundw
         case rel=>exact ⟨k+1,by omega,by go_num,by rw[HA2.out],HR3,HBR⟩
         case measure=>simp[intOf];omega
       · by_cases h43:k<43
         · obtain ⟨a1,a2⟩:=atN_lo h43
           have HR2:=HR.out
           rw[tabN_same k L (.inl h43)] at HR2
           have HR3:=Lib.hid HR2
           have HA2:=Lib.hid a2
           rw[a1]
           unfold tabJ at hck
           rw[(fix_tab (j:=k)).1 h43] at hck
           have hck':wr.cell? ⟨g1,k*2,none⟩=some (.int .u16 65535):=hck
           clear hb1 hg1 ht1 hnc1 hcm1 hcs1 hM1 hc1 hck HR2 a1 a2 HR
           go_wp2
           go_roundw
           case rel=>exact ⟨k+1,by omega,by go_num,by rw[HA2.out],HR3,HBR⟩
           case measure=>simp[intOf];omega
         · obtain ⟨a1,a2⟩:=atN_mid (show 43<=k by omega) (show k<49 by omega)
           have HA2:=Lib.hid a2
           rw[a1]
           obtain ⟨t,ht⟩:∃ t:Nat,t=k-43:=⟨_,rfl⟩
           have et:(k:Int)-43=(t:Int):=by omega
           have ht6:t<6:=by omega
           have ht6':(t:Int)<6:=by omega
           have htw:IntKind.u16.wrap (t:Int)=t:=by rw[IntKind.wrap_u16];omega
           unfold tabJ at hck
           rw[(fix_tab (j:=k)).2 (by omega) (by omega),if_neg (by decide),if_neg (by omega)] at hck
           have hck':wr.cell? ⟨g1,k*2,none⟩=some (.int .u16 0):=hck
           have HFIN:=Lib.hid (fun (w':World) (cur':Array Value) (hw:Wrote wr w' g1) (hg':w'.heap[g1]? =some (.cells cur' 109 (0,0))) (hs:cur'.size=cur1.size) (ht':cur'.toList.take ((tabN k L).length*2)=ownC ((tabN k L).set k (65534,(t:Int))))=>RSp.stored hb1 hg1 hnc1 hcm1 (owB_of fun j hj=>by rw[tabN_length] at hj;rw[tabN_getD _ _ _ hj];exact tabJ_bd _ _) hM1 hw hg' (hs.trans hcs1) ht' ⟨⟨by decide,by decide⟩,⟨by omega,by omega⟩⟩)
           have HST:Hid ((tabN k L).set k (65534,(t:Int))=tabN (k+1) L):=Lib.hid (by rw[<- et];exact tabN_set k L (by omega) (by omega))
           have HG:=Lib.hid hg1
           have HT:=Lib.hid ht1
           have HS:Hid ((tabN k L).length*2<=cur1.size):=Lib.hid (by omega)
           have HK:Hid (k<(tabN k L).length):=Lib.hid (by rw[tabN_length];exact hkt)
           have HGB:Hid (b<=g1):=Lib.hid (HMB.out g1 ((hM1 g1).2 (.inr rfl)))
           rw[et] at HA2 |-
           clear hb1 hg1 ht1 hnc1 hcm1 hcs1 hM1 hc1 hck a1 a2 HR ht et
           go_wp2_with (with_reducible refine wpList_store_owp rfl (.tmp 55) (.tmp 54) rfl g1 k (tabN k L) cur1 65534 t rfl rfl HG.out HT.out HS.out HK.out ?_;intro w4 cur4 hw4 hg4 hs4 ht4;have HE:=Lib.hid (HFIN.out w4 cur4 hw4 hg4 hs4 ht4);have HBE:=Lib.hid (HBR.out.trans (hw4.below HGB.out));clear hw4 hg4 hs4 ht4)
           go_roundw
           case rel=>exact ⟨k+1,by omega,by go_num,by rw[HA2.out],Lib.hid (by rw[<- HST.out];exact HE.out.1),HBE⟩
           case measure=>simp[intOf];omega
     · obtain rfl:k=L:=by omega
       have HR2:=HR.out
       go_wp2
       go_ret
       refine ⟨_,M,rfl,?_,fun x hx=>by have:=HMB.out x hx;rw[HBD.out] at this;exact this,?_⟩
       · unfold newO;rw[<- HL0.out];exact HR2
       · have:=HBW.out.trans HBR.out
         rw[HBD.out] at this;exact this
end Go.Proofs.YtedabomlfcghoaaGreat
