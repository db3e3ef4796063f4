/- What the law rests on: part 24. -/
import Derived.Test.YtedabomlfcghoaaGreatKG23
set_option linter.unusedVariables false
namespace Go.Proofs.YtedabomlfcghoaaGreat
set_option maxRecDepth 100000
open Go.RowKit BM
structure Flt (w:World) (P:Nat->Prop) (d p:Value) (X:XSt) (S:List Int) (N:List (List Int)) (O:List (Int × Int)) (kk:Nat) (F:Nat->List Int) (bf n sz:Nat) (M:Nat->Option (List Int)) (Q:List Int):Prop where
 md:Fmd w P d p X S N O kk F bf
 ft:Fat X.call N F n sz M
 q:PutS X Q
 bs:Base Q S kk n (num (N.getD n []) 13)
 rm:(cntU O (64*kk):Int)<=62*(kk:Int)-42
def FlO(w:World)(P:Nat->Prop)(d p:Value)(X:XSt)(S:List Int)(N:List (List Int))(O:List (Int × Int))(kk:Nat)(F:Nat->List Int)(bf n:Nat)(Q:List Int)(sz:Nat)(M:Nat->Option (List Int))(k:Nat)(R:(Nat->Prop)->XSt->List (List Int)->(Nat->List Int)->List Int->Prop)(w':World):Prop:=
 ∃ P' X' N' O' F' Q',Flt w' P' d p X' S N' O' kk F' bf n sz M Q'/\Fst S kk X N O F n X' N' O' F'/\(∀ a∈Q,a∈Q')/\Q'.length<=Q.length+k/\Chg P P' w w'/\R P' X' N' F' Q'
def noR:(Nat->Prop)->XSt->List (List Int)->(Nat->List Int)->List Int->Prop:=fun _ _ _ _ _=>True
def FlE(w:World)(P:Nat->Prop)(d p:Value)(X:XSt)(S:List Int)(kk bf:Nat)(w':World):Prop:=
 ∃ P' X' N' O' F',Fmd w' P' d p X' S N' O' kk F' bf/\Onw X X'/\Chg P P' w w'
section
variable {w:World}{P:Nat->Prop}{d p:Value}{X:XSt}{S:List Int}{N:List (List Int)}{O:List (Int × Int)}{kk:Nat}{F:Nat->List Int}{bf n sz:Nat}{M:Nat->Option (List Int)}{Q:List Int}
theorem Flt.low(h:Flt w P d p X S N O kk F bf n sz M Q){w':World}(hb:Below w.heap.size w w'):Flt w' P d p X S N O kk F bf n sz M Q:={ h with md:=h.md.low hb }
theorem Flt.here(h:Flt w P d p X S N O kk F bf n sz M Q){R:(Nat->Prop)->XSt->List (List Int)->(Nat->List Int)->List Int->Prop}(hR:R P X N F Q):FlO w P d p X S N O kk F bf n Q sz M 0 R w:=
 ⟨P,X,N,O,F,Q,h,Fst.refl _ _ _ _ _ _ _,fun _ h=>h,Nat.le_refl _,Chg.refl _ _,hR⟩
def Zgn(O:List (Int × Int))(kk:Nat)(M M':Nat->Option (List Int)):Prop:=(cntU O (64*kk):Int)+Zar M'<=62*(kk:Int)-42+Zar M
theorem usedB_upd(M:Nat->Option (List Int))(i:Nat)(l m:List Int):Zar (updB M i l)=Zar (updB M i m):=usedB_congr fun j _=>by
 by_cases e:j=i
 . subst e;rw[Zcn,Zcn];exact⟨fun _=>rfl,fun _=>rfl⟩
 . rw[Zbu _ e,Zbu _ e]
theorem Flt.cnt{X':XSt}{N':List (List Int)}{O':List (Int × Int)}{F':Nat->List Int}{M':Nat->Option (List Int)}{sz':Nat}(h:Flt w P d p X S N O kk F bf n sz M Q)(hf:Fat X'.call N' F' n sz' M')(hs:Fst S kk X N O F n X' N' O' F'):cntU O' (64*kk)+Zar M=cntU O (64*kk)+Zar M':=by
 have h1:=h.ft.used;have h2:=hf.used;have h3:=hs.cn;omega
theorem Flt.map(h:Flt w P d p X S N O kk F bf n sz M Q)(h1:1<=n)(h48:n<48)(hQ:Q.length<=34){i:Nat}(hi:i<138):
 (Zgn O kk M (updB M i z256)->Calls Tryz.prog 66 #[.pointer (some ⟨bf,0,none⟩),.int .i64 n,.int .i64 i] w fun e w'=>∃ v:Nat,e=.returned (.tuple #[.int .i64 v,.int .i64 0])/\
   FlO w P d p X S N O kk F bf n Q sz (updB M i (bkB M i)) 2 (fun P' X' N' F' Q'=>(v:Int)∈Q'/\locX (N'.getD n []) (F' n) i=(v:Int)/\v≠0) w')/\
 (¬ Zgn O kk M (updB M i z256)->Calls Tryz.prog 66 #[.pointer (some ⟨bf,0,none⟩),.int .i64 n,.int .i64 i] w fun e w'=>e=.returned (.tuple #[.int .i64 0,.int .i64 13])/\FlE w P d p X S kk bf w'):=by
 have hk:=h.ft.k0;by_cases h0:locX (N.getD n []) (F n) i=0
 . have hn:=h.ft.none hi h0
   have hnd:=h.ft.need hi hn z256;have hbl:bkB M i=z256:=by unfold bkB;rw[hn];rfl
   rw[hbl];constructor
   . intro hf
     unfold Zgn at hf;refine(fmMap_new h.md h1 h48 hk hi h0 h.q hQ h.bs (by rw[hnd] at hf;push_cast at hf;omega)).mono ?_;rintro e w' ⟨v,P',X',N',O',F',he,hm,hr,hg⟩;obtain⟨R,r1,r2,r3,r4⟩:=hr.pw;have hv:=hr.v0;have hft:=h.ft.map h.md.pl hr h1 h48 hi;have hfs:=hr.st.fst h.md.pl hr.on;have hc:=h.cnt hft hfs;refine⟨v.toNat,by rw[he];congr 3;simp;omega,P',X',N',O',F',Q ++ R,⟨hm,hft,r3,⟨fun g hg=>⟨List.mem_append_left _ (h.bs.g g hg).1,List.mem_append_left _ (h.bs.g g hg).2⟩,List.mem_append_left _ h.bs.t,r4⟩,by omega⟩,hfs,fun a ha=>List.mem_append_left _ ha,by rw[List.length_append];omega,hg,?_,?_,by omega⟩
     . rw[show((v.toNat:Nat):Int)=v by omega];exact List.mem_append_right _ r2
     . rw[hr.loc i hi,if_pos rfl];omega
   . intro hf
     unfold Zgn at hf;refine(fmMap_full h.md h1 h48 hk hi h0 h.q hQ h.bs (by rw[hnd] at hf;push_cast at hf;omega)).mono ?_;rintro e w' ⟨he,P',X',N',O',hm,ho,hg⟩;exact⟨he,P',X',N',O',F,hm,ho,hg⟩
 . have hsm:=h.ft.some hi h0
   have hu:updB M i (bkB M i)=M:=by
    funext j;by_cases e:j=i
    . subst e;rw[Zcn];unfold bkB;rw[hsm];rfl
    . rw[Zbu _ e]
   have hfit:Zgn O kk M (updB M i z256):=by
    unfold Zgn;rw[usedB_upd M i z256 (bkB M i),hu];have:=h.rm;omega
   refine⟨fun _=>?_,fun hf=>absurd hfit hf⟩;rw[hu];refine(fmMap_old h.md h1 h48 hk hi h0).mono ?_;rintro e w' ⟨he,hm,hg⟩;have hbd:=locX_bd (h.md.pl.tab.n.frm n h48) (h.md.pl.fi.fl n) (i:=i) (by omega);have ev:(((locX (N.getD n []) (F n) i).toNat:Nat):Int)=locX (N.getD n []) (F n) i:=by omega
   refine⟨(locX (N.getD n []) (F n) i).toNat,by rw[he,ev],P,X,N,O,F,Q ++ [locX (N.getD n []) (F n) i],⟨hm,h.ft,h.q.wide fun a ha=>List.mem_append_left _ ha,⟨fun g hg=>⟨List.mem_append_left _ (h.bs.g g hg).1,List.mem_append_left _ (h.bs.g g hg).2⟩,List.mem_append_left _ h.bs.t,fun e=>List.mem_append_left _ (h.bs.m e)⟩,h.rm⟩,Fst.refl _ _ _ _ _ _ _,fun a ha=>List.mem_append_left _ ha,by rw[List.length_append,List.length_singleton];omega,hg,?_,ev.symm,by omega⟩;rw[ev];exact List.mem_append_right _ (List.mem_singleton.2 rfl)
theorem Flt.put(h:Flt w P d p X S N O kk F bf n sz M Q)(h1:1<=n)(h48:n<48)(hQ:Q.length<=36){i:Nat}(hi:i<138){v:Nat}(hv:locX (N.getD n []) (F n) i=(v:Int))(h0:v≠0)(hvQ:(v:Int)∈Q){l:List Int}(hl:l.length=256){u:Value}(hu:BSl w u l):
 Calls Tryz.prog 67 #[p,.int .i64 v,u] w fun e w'=>e=.returned (.int .i64 0)/\FlO w P d p X S N O kk F bf n Q sz (updB M i l) 0 noR w':=by
 have ho:=Zij hi (h.md.pl.fi.ow n i h1 h48 (by omega) id (by rw[hv];omega));rw[hv,Int.toNat_natCast] at ho;refine(h.md.data h1 h48 hi ho hl hu (by have:=h.q.le;omega)).mono ?_;rintro e w' ⟨he,P',hm,hg⟩;exact⟨he,P',_,N,O,F,Q,⟨hm,h.ft.put h.md.pl h1 h48 hi hv h0 hl hu.1,h.q.add hvQ rfl,h.bs,h.rm⟩,⟨fun m sz M a b c e=>e.putOther h.md.pl b c (Ne.symm a) ho l,⟨rfl,rfl⟩,rfl⟩,fun _ h=>h,Nat.le_refl _,hg,trivial⟩
theorem Frd.data(h:Frd w P d p X S N O kk F bf)(h1:1<=n)(h48:n<48){i:Nat}(hi:i<138){v:Nat}(hv:locX (N.getD n []) (F n) i=(v:Int))(h0:v≠0):v<X.is.length/\OutJ v:=by
 have ho:=h.fi.ow n i h1 h48 (by omega) id (by rw[hv];omega);rw[hv] at ho;have hj:=ho.outJ h.k12;rw[Int.toNat_natCast] at hj;refine⟨?_,hj⟩;rw[<- h.inv.xok.curLen,h.len];have:=ho.1;omega
theorem Frd.getB(h:Frd w P d p X S N O kk F bf)(ft:Fat X.cur N F n sz M)(h1:1<=n)(h48:n<48){i:Nat}(hi:i<138){v:Nat}(hv:locX (N.getD n []) (F n) i=(v:Int))(h0:v≠0){V:World}(hV:Below w.heap.size w V):
 Calls Tryz.prog 61 #[p,.int .i64 v] V fun e w'=>∃ g cap T rest,e=.returned (.tuple #[.slice (some ⟨g,0,none⟩) 256 cap,.int .i64 0])/\Rw w' V.heap.size (.slice (some ⟨g,0,none⟩) 256 cap) (bkB M i) g cap T rest/\Below V.heap.size V w':=by
 obtain⟨hl,hj⟩:=h.data h1 h48 hi hv h0;refine(sGet_row (h.inv.low hV) hl).mono ?_;rintro e w' ⟨u,l,he,⟨g,cap,T,rest,hr⟩,hE,hb⟩;have e1:l=bkB M i:=by
  rw[hE hj];unfold bkB;rw[ft.some hi (by rw[hv];omega),hv,Int.toNat_natCast];rfl
 subst e1;have hu:=hr.val;subst hu;exact⟨g,cap,T,rest,he,hr,hb⟩
end
section
variable {w:World}{P:Nat->Prop}{d p:Value}{X:XSt}{S:List Int}{N:List (List Int)}{O:List (Int × Int)}{kk:Nat}{F:Nat->List Int}{bf n sz:Nat}{M:Nat->Option (List Int)}{Q:List Int}
def RdB(w:World)(N:List (List Int))(F:Nat->List Int)(M:Nat->Option (List Int))(n i:Nat)(e:Ending)(w':World):Prop:=
 ∃ g cap T rest,e=.returned (.tuple #[.int .i64 (locX (N.getD n []) (F n) i),.slice (some ⟨g,0,none⟩) 256 cap,.int .i64 0])/\Rw w' w.heap.size (.slice (some ⟨g,0,none⟩) 256 cap) (bkB M i) g cap T rest/\Below w.heap.size w w'
theorem Ziw(h:Frd w P d p X S N O kk F bf)(ft:Fat X.cur N F n sz M)(h1:1<=n)(h48:n<48){i:Nat}(hi:i<138):
 Calls Tryz.prog 34 #[.pointer (some ⟨bf,0,none⟩),.int .i64 n,.int .i64 i] w (RdB w N F M n i):=by
 have KA:=hid (fmAt_of h h1 h48 ft.k0 hi);by_cases h0:locX (N.getD n []) (F n) i=0
 . have hbl:bkB M i=z256:=by unfold bkB;rw[ft.none hi h0];rfl
   unfold RdB;rw[hbl];rw[h0] at KA |-
   have HR:Hid (∀ V:World,Rw ((V.alloc (.cells (Array.replicate 256 (.int .u8 0)) 5)).drew) V.heap.size (.slice (some ⟨V.heap.size,0,none⟩) 256 256) z256 V.heap.size 256 5 []):=hid fun V=>by
    refine⟨z256_byt,z256_len,rfl,Nat.le_refl _,?_,Nat.le_refl _⟩;have:=heap_alloc_new V (.cells (Array.replicate 256 (.int .u8 0)) 5);refine Eq.trans this ?_;rw[List.append_nil];unfold z256;rw[List.map_replicate,List.toArray_replicate]
   have hmk:=fun W=>make_n W 256 (by decide) 256 rfl
   obtain⟨Z,hZ⟩:∃ Z,Z=Array.replicate 256 (Value.int .u8 0):=⟨_,rfl⟩;rw[<- hZ] at HR hmk;clear h ft h0 hbl hZ;go_enter Tryz.func34,Tryz.ntmps34;go_wp2_with (go_at_call 60;refine KA.out.mono ?_;rintro e w2 ⟨rfl,hb2⟩)
   go_region
   go_wp2;go_ret3;exact⟨_,_,_,_,rfl,{ HR.out w2 with ge:=hb2.size },(hb2.trans ((Zaa w2 _).mono hb2.size)).drew⟩
 . have hbd:=locX_bd (h.tab.n.frm n h48) (h.fi.fl n) (i:=i) (by omega)
   obtain⟨v,hv⟩:∃ v:Nat,locX (N.getD n []) (F n) i=(v:Int):=⟨(locX (N.getD n []) (F n) i).toNat,by omega⟩;have hv0:v≠0:=by omega
   have KG:=hid (fun V hV=>h.getB ft h1 h48 hi hv hv0 (V:=V) hV);have HF:=hid (fun V (hV:Below w.heap.size w V)=>(h.fs.low hV).cell);unfold RdB;rw[hv] at KA |-
   have ev:((v:Int)==0)=false:=by simpa using hv0
   have HS:Hid (w.heap.size=w.heap.size):=hid rfl;clear h ft h0 hbd hv hv0;go_enter Tryz.func34,Tryz.ntmps34
   go_wp2_with (first
    |(go_at_call 60;refine KA.out.mono ?_;rintro e w2 ⟨rfl,hb2⟩;have c2:=HF.out _ hb2)
    |(go_at_call 61;refine(KG.out _ hb2).mono ?_;rintro e w3 ⟨g,cap,T,rest,rfl,hr3,hb3⟩))
   go_ret3;exact⟨g,cap,T,rest,rfl,{ hr3 with ge:=Nat.le_trans hb2.size hr3.ge },hb2.trans (hb3.mono hb2.size)⟩
end
def mxL(l:List Int):Nat->Int
 |0=>0
 |1=>l.getD 0 0
 |k+2=>max (mxL l (k+1)) (l.getD (k+1) 0)
theorem mxL_bd{l:List Int}(h:Byt l):∀ k,0<=mxL l k/\mxL l k<=255
 |0=>by unfold mxL;omega
 |1=>by have:=h 0;unfold mxL;omega
 |k+2=>by have:=h (k+1);have:=mxL_bd h (k+1);unfold mxL;omega
theorem mxL_zero{l:List Int}(h:Byt l):∀ k,mxL l k=0 ↔ ∀ j,j<k->l.getD j 0=0
 |0=>⟨fun _ j hj=>absurd hj (Nat.not_lt_zero _),fun _=>rfl⟩
 |1=>⟨fun e j hj=>(by have h0:j=0:=(by omega);subst h0;exact e),fun e=>e 0 Nat.zero_lt_one⟩
 |k+2=>by
  have ih:=mxL_zero h (k+1);have h1:=mxL_bd h (k+1);have h2:=h (k+1);unfold mxL;constructor
  . intro e j hj
    by_cases c:j=k+1
    . subst c;omega
    . exact(ih.1 (by omega)) j (by omega)
  . intro e
    have a:=ih.2 fun j hj=>e j (by omega)
    have b:=e (k+1) (by omega);omega
theorem slMax_of{w:World}{g off cap:Nat}{l:List Int}(hs:BSl w (.slice (some ⟨g,off,none⟩) l.length cap) l)(h0:0<l.length)(hM:l.length<=1000):
 Calls Tryz.prog 71 #[.slice (some ⟨g,off,none⟩) l.length cap] w fun e w'=>e=.returned (.int .u8 (mxL l l.length))/\w=w':=by
 obtain⟨m,hm⟩:∃ m,m=l.length:=⟨_,rfl⟩;have HC:Hid (∀ j,j<m->w.cell? ⟨g,off+j,none⟩=some (.int .u8 (l.getD j 0))):=hid fun j hj=>by
  rcases hs.2 with⟨e,_⟩| ⟨a,c,e,_,hc⟩
  . cases e
  . obtain rfl:=Option.some.inj (Value.slice.inj e).1
    exact(hc j (by omega)).2.2
 have HB:=hid (mxL_bd hs.1);have HBY:=hid hs.1;rw[<- hm] at h0 hM |-
 obtain⟨R,hR⟩:∃ R,R=mxL l m:=⟨_,rfl⟩;rw[<- hR];have HR:=hid hR;have c0:=HC.out 0 h0;rw[Nat.add_zero] at c0;have e0:(0:Int)<(m:Int):=by omega
 have H1:Hid (l.getD 0 0=mxL l 1):=hid rfl;clear hs hm hR;go_enter Tryz.func71,Tryz.ntmps71;go_wp2;go_loopw [3,4] (fun a i wr=>w=wr/\∃ k:Nat,1<=k/\k<=m/\i=.int .i64 k/\a=.int .u8 (mxL l k)) (fun _ i _=>m-(intOf i).toNat)
 case atStart=>exact⟨rfl,1,Nat.le_refl _,h0,rfl,by rw[<- H1.out,List.getD_eq_getElem?_getD]⟩
 case round=>
  obtain⟨rfl,k,hk1,hk,rfl,rfl⟩:=hrel;clear c0;by_cases hlt:k<m
  . have ck:=HC.out k hlt
    have hb1:=HB.out k;have hb2:=HBY.out k;have HN:Hid (mxL l (k+1)=max (mxL l k) (l.getD k 0)):=hid (by
     obtain⟨j,rfl⟩:∃ j,k=j+1:=⟨k-1,by omega⟩;rfl)
    obtain⟨x,hx⟩:∃ x,x=mxL l k:=⟨_,rfl⟩;obtain⟨y,hy⟩:∃ y,y=l.getD k 0:=⟨_,rfl⟩;rw[<- hx,<- hy] at HN;rw[<- hx] at hb1 |-
    rw[<- hy] at hb2 ck;have ek:(k:Int)<(m:Int):=by omega
    clear hx hy;go_wp2;go_roundw
    case rel=>exact⟨by trivial,k+1,by omega,by omega,by go_num,by rw[HN.out]⟩
    case measure=>simp[intOf];omega
  . obtain rfl:k=m:=by omega
    rw[<- HR.out];go_wp2;go_ret;exact⟨rfl,rfl⟩
theorem ints_one8(l:List Int):∀ v∈l.map (Value.int .u8),v.oneCell'=true:=fun v hv=>by
 obtain⟨x,_,rfl⟩:=List.mem_map.1 hv;rfl
section
variable {w:World}{P:Nat->Prop}{d p:Value}{X:XSt}{S:List Int}{N:List (List Int)}{O:List (Int × Int)}{kk:Nat}{F:Nat->List Int}{bf n sz:Nat}{M:Nat->Option (List Int)}{Q:List Int}
def SpAt(w:World)(b:Nat)(i o t:Int):Prop:=w.heap[b]? =some (.cells #[.int .i64 i,.int .i64 o,.int .i64 t] 78 (0,0))
theorem SpAt.cells{b:Nat}{i o t:Int}(h:SpAt w b i o t):w.cell? ⟨b,0,none⟩=some (.int .i64 i)/\w.cell? ⟨b,1,none⟩=some (.int .i64 o)/\w.cell? ⟨b,2,none⟩=some (.int .i64 t):=
 ⟨by rw[cell_of_row _ _ _ _ _ _ h];rfl,by rw[cell_of_row _ _ _ _ _ _ h];rfl,by rw[cell_of_row _ _ _ _ _ _ h];rfl⟩
theorem FlO.widen{w1:World}{sz2 k:Nat}{M2:Nat->Option (List Int)}{R:(Nat->Prop)->XSt->List (List Int)->(Nat->List Int)->List Int->Prop}{w':World}(hb:Below w.heap.size w w1)(h:FlO w1 P d p X S N O kk F bf n Q sz2 M2 k R w'):FlO w P d p X S N O kk F bf n Q sz2 M2 k R w':=by
 obtain⟨P',X',N',O',F',Q',a,b,c,e,f,g⟩:=h;exact⟨P',X',N',O',F',Q',a,b,c,e,(Chg.of_below hb).trans f,g⟩
theorem FlE.widen{w1 w':World}(hb:Below w.heap.size w w1)(h:FlE w1 P d p X S kk bf w'):FlE w P d p X S kk bf w':=by
 obtain⟨P',X',N',O',F',a,b,c⟩:=h;exact⟨P',X',N',O',F',a,b,(Chg.of_below hb).trans c⟩
theorem FlO.then{P1:Nat->Prop}{X1:XSt}{N1:List (List Int)}{O1:List (Int × Int)}{F1:Nat->List Int}{Q1:List Int}{w1 w':World}{sz2 j k:Nat}{M2:Nat->Option (List Int)}{R:(Nat->Prop)->XSt->List (List Int)->(Nat->List Int)->List Int->Prop}
 (hs:Fst S kk X N O F n X1 N1 O1 F1) (hq:∀ a∈Q,a∈Q1) (hl:Q1.length<=Q.length+j) (hc:Chg P P1 w w1) (h:FlO w1 P1 d p X1 S N1 O1 kk F1 bf n Q1 sz2 M2 k R w'):FlO w P d p X S N O kk F bf n Q sz2 M2 (j+k) R w':=by
 obtain⟨P',X',N',O',F',Q',a,b,c,e,f,g⟩:=h;exact⟨P',X',N',O',F',Q',a,hs.trans b,fun x hx=>c x (hq x hx),by omega,hc.trans f,g⟩
set_option maxHeartbeats 1000000 in
theorem flWriteSpan_ok(h:Flt w P d p X S N O kk F bf n sz M Q)(h1:1<=n)(h48:n<48)(hQ:Q.length<=34){i o m:Nat}(hi:i<138)(hm:0<m)(ho:o+m<=256){u:Value}{c:List Int}(hu:BSl w u c)(hap:Apt P u)(hc:m<=c.length)(hf:Zgn O kk M (updB M i z256)):
 Calls Tryz.prog 38 #[.pointer (some ⟨bf,0,none⟩),.int .i64 n,.agg #[.int .i64 i,.int .i64 o,.int .i64 ((o+m:Nat):Int)],u] w fun e w'=>e=.returned (.int .i64 0)/\FlO w P d p X S N O kk F bf n Q sz (updB M i (splice (bkB M i) o (c.take m))) 2 noR w':=by
 have hb1:=Zaa w (.cells #[.int .i64 i,.int .i64 o,.int .i64 ((o+m:Nat):Int)] 78);have hr1:SpAt (w.alloc (.cells #[.int .i64 i,.int .i64 o,.int .i64 ((o+m:Nat):Int)] 78)) w.heap.size i o ((o+m:Nat):Int):=heap_alloc_new w _;obtain⟨w1,hw1⟩:∃ w1,w1=w.alloc (.cells #[.int .i64 i,.int .i64 o,.int .i64 ((o+m:Nat):Int)] 78):=⟨_,rfl⟩;have H1:=hid hw1.symm;rw[<- hw1] at hb1 hr1;have h':=h.low hb1;have hPs:¬ P w.heap.size:=fun hp=>by have:=h.md.inv.lt _ hp;omega
 have c1:=hr1.cells.1;have HU:Hid (∀ V P2,Chg P P2 w1 V->BSl V u c/\SpAt V w.heap.size i o ((o+m:Nat):Int)):=hid fun V P2 hg=>
  ⟨((hu.below hb1).chg hap hg).1,(hg.keep _ (Array.getElem?_eq_some_iff.1 hr1).1 hPs).1.trans hr1⟩
 obtain⟨ub,uo,ucap,rfl,_,_⟩:=hu.open' (by omega)
 have KM:Hid (Calls Tryz.prog 66 #[.pointer (some ⟨bf,0,none⟩),.int .i64 n,.int .i64 i] w1 fun e w2=>∃ v:Nat,e=.returned (.tuple #[.int .i64 v,.int .i64 0])/\
  FsAt w2 bf p/\(∀ V,Below w2.heap.size w2 V->BSl V (.slice (some ⟨ub,uo,none⟩) c.length ucap) c/\SpAt V w.heap.size i o ((o+m:Nat):Int)/\FsAt V bf p)/\
  Calls Tryz.prog 61 #[p,.int .i64 v] w2 fun e w3=>∃ g cap T rest,e=.returned (.tuple #[.slice (some ⟨g,0,none⟩) 256 cap,.int .i64 0])/\Rw w3 w2.heap.size (.slice (some ⟨g,0,none⟩) 256 cap) (bkB M i) g cap T rest/\Below w2.heap.size w2 w3/\
   ∀ w4 l,Below w2.heap.size w2 w4->BSl w4 (.slice (some ⟨g,0,none⟩) 256 cap) l->l.length=256->Calls Tryz.prog 67 #[p,.int .i64 v,.slice (some ⟨g,0,none⟩) 256 cap] w4 fun e w'=>e=.returned (.int .i64 0)/\FlO w P d p X S N O kk F bf n Q sz (updB M i l) 2 noR w'):=hid (by
  refine((h'.map h1 h48 hQ hi).1 hf).mono ?_;rintro e w2 ⟨v,he,P2,X2,N2,O2,F2,Q2,h2,hst,hqq,hql,hg2,hvQ,hloc,hv0⟩;refine⟨v,he,h2.md.fs,fun V hV=>?_,?_⟩
  . obtain⟨a,b⟩:=HU.out _ _ hg2
    exact⟨a.below hV,Zad b hV,h2.md.fs.low hV⟩
  . have hbk:bkB (updB M i (bkB M i)) i=bkB M i:=by rw[bkB_upd,if_pos rfl]
    refine(h2.md.rd.getB (M:=updB M i (bkB M i)) (by rw[h2.md.cur];exact h2.ft) h1 h48 hi hloc hv0 (Below.refl _ _)).mono ?_;rintro e3 w3 ⟨g,cap,T,rest,he3,hr3,hb3⟩;rw[hbk] at hr3;refine⟨g,cap,T,rest,he3,hr3,hb3,fun w4 l hb4 hu4 hl4=>?_⟩;refine((h2.low hb4).put h1 h48 (by omega) hi hloc hv0 hvQ hl4 hu4).mono ?_;rintro e5 w5 ⟨he5,ho5⟩;rw[updB_upd] at ho5;exact⟨he5,(FlO.then (j:=2) (k:=0) hst hqq hql (hg2.trans (Chg.of_below hb4)) ho5).widen hb1⟩)
 have hlen:((c.take m).map (Value.int .u8)).length=m:=by rw[List.length_map,List.length_take];omega
 have HLN:=hid hlen;have HMN:Hid (m=Nat.min c.length m):=hid (Nat.min_eq_right hc).symm;have HBC:Hid (Byt (c.take m)):=hid (Zbs hu.1 m);have HTL:Hid ((c.take m).length=m):=hid (by rw[List.length_take];omega);have HBW:=hid hb1;have ho1:o<256:=by omega
 have hom:((o:Nat):Int)<=((o+m:Nat):Int):=by omega
 have ht256:((o+m:Nat):Int)<=256:=by omega
 obtain⟨t,ht⟩:∃ t:Nat,t=o+m:=⟨_,rfl⟩;have HT:=hid ht;rw[<- ht] at hom ht256 H1 KM hr1 |-
 have htm:t-o=m:=by omega
 have hot:o<=t:=by omega
 have ht2:t<=256:=by omega
 have HTM:=hid htm;have HOM:Hid (o+m<=256):=hid ho;clear h h' hw1 hb1 hr1 HU hu hap hlen hf hPs ht hc htm ho;go_enter Tryz.func38,Tryz.ntmps38;go_upto_region 1 with(fail)
 rw[H1.out]
 go_wp2_with (first
  |(go_at_call 66;refine KM.out.mono ?_;rintro e w2 ⟨v,rfl,hf2,hk2,KG⟩;have cf2:=hf2.cell;have HK2:=hid hk2;have KGH:=hid KG;clear hf2 hk2 KG)
  |(go_at_call 61;refine KGH.out.mono ?_;rintro e w3 ⟨g,cap,T,rest,rfl,hr3,hb3,KP⟩
    obtain⟨hu3,hs3,hf3⟩:=HK2.out _ hb3;obtain⟨s0,s1,s2⟩:=hs3.cells;have HR3:=hid hr3;have HB3:=hid hb3;have HP:=hid KP;have hcp:=hr3.cap;have HU3:=hid hu3;have HF3:=hid hf3;have HPOS:Hid (0<((c.take m).map (Value.int .u8)).length->∃ ad,(some (⟨ub,uo,none⟩:Addr))=some ad/\∀ j v,((c.take m).map (Value.int .u8))[j]? =some v->w3.cell? (ad.add j)=some v):=hid fun hp=>Zeq hu3 (fun _ _=>rfl) m hp
    have HFT:Hid (o+((c.take m).map (Value.int .u8)).length<=((bkB M i).map (Value.int .u8) ++ rest).length):=hid (by rw[HLN.out,List.length_append,List.length_map,hr3.len];have:=HOM.out;omega);clear hr3 hb3 KP hu3 hs3 hf3)
  |(with_reducible refine Zen rfl (.tmp 35) (.tmp 37) (.tmp 39) rfl g 0 256 cap rfl (o:Int) (t:Int) rfl rfl o t m HTM.out rfl rfl hot (by omega) (by omega) ?_)
  |(with_reducible refine Zbc rfl _ _ 30 30 rfl 5 Tryz.underlying30 (by kernel_rfl) _ _ _ _ _ _ rfl rfl g o ((bkB M i).map (Value.int .u8) ++ rest) T HR3.out.row ((c.take m).map (Value.int .u8)) m HLN.out HMN.out (fun h=>⟨rfl,HPOS.out h⟩) HFT.out (ints_one8 _) ?_
    intro w4 HG4 HW4;have hr4:Rw w4 w2.heap.size (.slice (some ⟨g,0,none⟩) 256 cap) (splice (bkB M i) o (c.take m)) g cap T rest:=(HR3.out.wrote HBC.out (by rw[HTL.out];exact HOM.out) HG4.out);have hbf:=block_lt_of_cell cf2;have hge:=HR3.out.ge;have hf4:FsAt w4 bf p:=(HW4.2.2.2.2 bf (by intro e;simp only at hbf;omega)).trans HF3.out;have cf4:=hf4.cell;have KP4:=hid (HP.out w4 _ (HB3.out.trans (HW4.below HR3.out.ge)) hr4.bsl hr4.len))
  |(go_at_call 67;refine KP4.out.mono ?_;rintro e w5 ⟨rfl,hO5⟩))
 go_ret;exact⟨rfl,hO5⟩
theorem flWriteSpan_no(h:Flt w P d p X S N O kk F bf n sz M Q)(h1:1<=n)(h48:n<48)(hQ:Q.length<=34){i:Nat}{o t:Int}(hi:i<138){u:Value}(hf:¬ Zgn O kk M (updB M i z256)):
 Calls Tryz.prog 38 #[.pointer (some ⟨bf,0,none⟩),.int .i64 n,.agg #[.int .i64 i,.int .i64 o,.int .i64 t],u] w fun e w'=>e=.returned (.int .i64 13)/\FlE w P d p X S kk bf w':=by
 have hb1:=Zaa w (.cells #[.int .i64 i,.int .i64 o,.int .i64 t] 78);have hr1:SpAt (w.alloc (.cells #[.int .i64 i,.int .i64 o,.int .i64 t] 78)) w.heap.size i o t:=heap_alloc_new w _;obtain⟨w1,hw1⟩:∃ w1,w1=w.alloc (.cells #[.int .i64 i,.int .i64 o,.int .i64 t] 78):=⟨_,rfl⟩;have H1:=hid hw1.symm;rw[<- hw1] at hb1 hr1;have c1:=hr1.cells.1;have KM:=hid (((h.low hb1).map h1 h48 hQ hi).2 hf);have HB:=hid hb1;clear h hw1 hr1 hf hb1;go_enter Tryz.func38,Tryz.ntmps38;go_upto_region 1 with(fail)
 rw[H1.out];go_wp2_with (go_at_call 66;refine KM.out.mono ?_;rintro e w2 ⟨rfl,hE⟩)
 go_ret;exact⟨rfl,hE.widen HB.out⟩
def wipB(M:Nat->Option (List Int))(i o:Nat):Nat->Option (List Int):=fun j=>if j=i then (M i).map fun l=>l.take o ++ List.replicate (256-o) 0 else M j
theorem splice_zero{l:List Int}(hl:l.length=256){o:Nat}(ho:o<=256):splice l o (List.replicate (256-o) 0)=l.take o ++ List.replicate (256-o) 0:=by
 unfold splice;rw[List.drop_of_length_le (by rw[List.length_replicate];omega),List.append_nil]
theorem wipB_same{o i:Nat}(hk:OkB M)(h:∀ j,j<256-o->(bkB M i).getD (o+j) 0=0):wipB M i o=M:=by
 funext j;unfold wipB;by_cases e:j=i
 . subst e
   rw[if_pos rfl];cases hm:M j
   . rfl
   . next l=>
     have hl:=hk.len j l hm;have hb:bkB M j=l:=by unfold bkB;rw[hm];rfl
     rw[hb] at h;show some _=some _
     congr 1;apply List.ext_getElem
     . rw[List.length_append,List.length_take,List.length_replicate];by_cases c:o<=256
       . omega
       . rw[hl] at *;omega
     . intro k h1 h2
       by_cases c:k<o
       . rw[List.getElem_append_left (by rw[List.length_take];omega),List.getElem_take]
       . rw[List.getElem_append_right (by rw[List.length_take];omega),List.getElem_replicate]
         have:=h (k-o) (by omega);rw[show o+(k-o)=k by omega,List.getD_eq_getElem?_getD,List.getElem?_eq_getElem h2] at this;exact this.symm
 . rw[if_neg e]
theorem wipB_upd{o i:Nat}(hk:OkB M)(ho:o<=256)(hs:(M i).isSome=true):updB M i (splice (bkB M i) o (List.replicate (256-o) 0))=wipB M i o:=by
 funext j;unfold wipB;by_cases e:j=i
 . subst e
   rw[Zcn,if_pos rfl];cases hm:M j
   . rw[hm] at hs;cases hs
   . next l=>
     have hb:bkB M j=l:=by unfold bkB;rw[hm];rfl
     rw[hb,splice_zero (hk.len j l hm) ho];rfl
 . rw[Zbu _ e,if_neg e]
set_option maxHeartbeats 1000000 in
theorem flWipe_of(h:Flt w P d p X S N O kk F bf n sz M Q)(h1:1<=n)(h48:n<48)(hQ:Q.length<=35){i o:Nat}(hi:i<138)(ho:o<256):
 Calls Tryz.prog 41 #[.pointer (some ⟨bf,0,none⟩),.int .i64 n,.int .i64 i,.int .i64 o] w fun e w'=>e=.returned (.int .i64 0)/\FlO w P d p X S N O kk F bf n Q sz (wipB M i o) 1 noR w':=by
 have KR:=Ziw h.md.rd (M:=M) (sz:=sz) (by rw[h.md.cur];exact h.ft) h1 h48 hi;have hok:=h.ft.ok;have hbl:=hok.blk i;obtain⟨D,hD⟩:∃ D,D=((bkB M i).drop o).take (256-o):=⟨_,rfl⟩;have hDl:D.length=256-o:=by rw[hD,List.length_take,List.length_drop,hbl.1];omega
 have hDg:∀ j,j<256-o->D.getD j 0=(bkB M i).getD (o+j) 0:=fun j hj=>by
  rw[hD,List.getD_eq_getElem?_getD,List.getElem?_take,if_pos hj,List.getElem?_drop,List.getD_eq_getElem?_getD]
 have hDb:Byt D:=by rw[hD];exact Zbs (Zkr hbl.2 o) _
 have hmx:=mxL_zero hDb (256-o);have KX:Hid (∀ (V:World) (g cap:Nat) T rest B,Rw V B (.slice (some ⟨g,0,none⟩) 256 cap) (bkB M i) g cap T rest->Calls Tryz.prog 71 #[.slice (some ⟨g,o,none⟩) (256-o) (cap-o)] V fun e w'=>e=.returned (.int .u8 (mxL D (256-o)))/\V=w'):=hid fun V g cap T rest B hr=>by
  have hb:=hr.bsl;rw[show(256:Nat)=(bkB M i).length from hr.len.symm] at hb;have hm:=hb.mid o (256-o) (by rw[hr.len];omega);rw[<- hD] at hm;rw[Nat.zero_add] at hm;have:=slMax_of (w:=V) (g:=g) (off:=o) (cap:=cap-o) (l:=D) (by rw[hDl];exact hm) (by omega) (by omega);rw[hDl] at this;exact this
 have eo:(o:Int)<=256:=by omega
 have ho2:o<=256:=by omega
 by_cases hz:mxL D (256-o)=0
 . have hsame:wipB M i o=M:=wipB_same hok fun j hj=>by rw[<- hDg j hj];exact hmx.1 hz j hj
   rw[hsame];have HL:=hid (fun V (hV:Below w.heap.size w V)=>(h.low hV).here (R:=noR) trivial);have KR:=hid KR;rw[hz] at KX;clear h hok hbl hD hDl hDg hDb hmx hz hsame;go_enter Tryz.func41,Tryz.ntmps41
   go_wp2_with (first
    |(go_at_call 34;refine KR.out.mono ?_;rintro e w2 ⟨g,cap,T,rest,rfl,hr2,hb2⟩;have hcp:=hr2.cap;have KX2:=hid (KX.out _ _ _ _ _ _ hr2);have HB2:=hid hb2;clear hr2 hb2)
    |(with_reducible refine Zfn rfl (.tmp 23) (.tmp 24) rfl g 0 256 cap rfl (o:Int) rfl o rfl ho2 hcp (by omega) ?_)
    |(go_at_call 71;(with_reducible refine KX2.out.mono ?_);rintro e w' ⟨rfl,rfl⟩))
   go_ret;obtain⟨P',X',N',O',F',Q',a,b,c,e,f,g⟩:=HL.out _ HB2.out;exact⟨rfl,P',X',N',O',F',Q',a,b,c,Nat.le_succ_of_le e,(Chg.of_below HB2.out).trans f,g⟩
 . have hs:(M i).isSome=true:=by
    cases hm:M i
    . exfalso
      apply hz;apply hmx.2;intro j hj;rw[hDg j hj];unfold bkB;rw[hm];show z256.getD (o+j) 0=0
      unfold z256;rw[List.getD_eq_getElem?_getD,List.getElem?_replicate];split <;> rfl
    . rfl
   have hupd:=wipB_upd hok ho2 hs;rw[<- hupd];have h0:=(h.ft.iff hi).1 hs;have hbd:=locX_bd (h.md.pl.tab.n.frm n h48) (h.md.pl.fi.fl n) (i:=i) (by omega);obtain⟨v,hv⟩:∃ v:Nat,locX (N.getD n []) (F n) i=(v:Int):=⟨(locX (N.getD n []) (F n) i).toNat,by omega⟩;unfold RdB at KR;rw[hv] at KR;have KR:=hid KR;have h2:Flt w P d p X S N O kk F bf n sz M (Q ++ [(v:Int)]):={ h with q:=h.q.wide fun a ha=>List.mem_append_left _ ha,bs:=⟨fun g hg=>⟨List.mem_append_left _ (h.bs.g g hg).1,List.mem_append_left _ (h.bs.g g hg).2⟩,List.mem_append_left _ h.bs.t,fun e=>List.mem_append_left _ (h.bs.m e)⟩ };have KP:Hid (∀ V (u:Value) l,Below w.heap.size w V->BSl V u l->l.length=256->Calls Tryz.prog 67 #[p,.int .i64 v,u] V fun e w'=>e=.returned (.int .i64 0)/\FlO w P d p X S N O kk F bf n Q sz (updB M i l) 1 noR w'):=hid fun V u l hV hu hl=>
    ((h2.low hV).put h1 h48 (by rw[List.length_append,List.length_singleton];omega) hi hv (by omega) (List.mem_append_right _ (List.mem_singleton.2 rfl)) hl hu).mono fun e w' ⟨he,P',X',N',O',F',Q',a,b,c,e2,f,g⟩=>
      ⟨he,P',X',N',O',F',Q',a,b,fun x hx=>c x (List.mem_append_left _ hx),by rw[List.length_append,List.length_singleton] at e2;omega,(Chg.of_below hV).trans f,g⟩
   have HC:Hid (∀ (V:World) (g cap:Nat) T rest,Rw V w.heap.size (.slice (some ⟨g,0,none⟩) 256 cap) (bkB M i) g cap T rest->Below w.heap.size w V->∃ w',(∀ ty,(Builtin.clear_ #[30] ty #[.slice (some ⟨g,o,none⟩) (256-o) (cap-o)]).run Tryz.prog V=.ok (.tuple #[]) w')/\Below w.heap.size w w'/\FsAt w' bf p/\Hid (BSl w' (.slice (some ⟨g,0,none⟩) 256 cap) (splice (bkB M i) o (List.replicate (256-o) 0))/\(splice (bkB M i) o (List.replicate (256-o) 0)).length=256)):=hid fun V g cap T rest hr hV=>by
    obtain⟨w',hrun,hw,hr'⟩:=hr.clear (o:=o) (n:=256-o) (c:=cap-o) (by omega) (by omega);have hb':=hV.trans (hw.below hr.ge);exact⟨w',hrun,hb',h.md.fs.low hb',hid ⟨hr'.bsl,hr'.len⟩⟩
   have hzz:(mxL D (256-o)==0)=false:=by simpa using hz
   obtain⟨Y,hY⟩:∃ Y,Y=mxL D (256-o):=⟨_,rfl⟩;rw[<- hY] at KX hzz;clear h h2 hok hbl hD hDl hDg hDb hmx hz hs hupd h0 hbd hv hY;go_enter Tryz.func41,Tryz.ntmps41
   go_wp2_with (first
    |(go_at_call 34;refine KR.out.mono ?_;rintro e w2 ⟨g,cap,T,rest,rfl,hr2,hb2⟩;have hcp:=hr2.cap;have KX2:=hid (KX.out _ _ _ _ _ _ hr2);obtain⟨w4,hcl,hb4,hf4,HU4⟩:=HC.out _ _ _ _ _ hr2 hb2;have KP4:=hid (KP.out w4 _ _ hb4 HU4.out.1 HU4.out.2);have cf4:=hf4.cell;clear hr2 hb2 hb4 hf4)
    |(with_reducible refine Zfn rfl (.tmp 23) (.tmp 24) rfl g 0 256 cap rfl (o:Int) rfl o rfl ho2 hcp (by omega) ?_)
    |(with_reducible refine Zfn rfl (.tmp 30) (.tmp 31) rfl g 0 256 cap rfl (o:Int) rfl o rfl ho2 hcp (by omega) ?_)
    |(go_at_call 71;(with_reducible refine KX2.out.mono ?_);rintro e w' ⟨rfl,rfl⟩)
    |(go_at_call 67;refine KP4.out.mono ?_;rintro e w5 ⟨rfl,hO5⟩))
   go_ret;exact⟨rfl,hO5⟩
end
theorem flSpans_none{a n:Int}(hn:¬ 0<n)(w:World):Calls Tryz.prog 33 #[.int .i64 a,.int .i64 n] w fun e w'=>e=.returned (.slice none 0 0)/\w=w':=by
 go_enter Tryz.func33,Tryz.ntmps33;go_wp2;go_loopw [1,5] (fun y v wr=>w=wr/\y=.int .i64 n/\v=.slice none 0 0) (fun _ _ _=>0)
 case atStart=>exact⟨rfl,rfl,rfl⟩
 case round=>
  obtain⟨rfl,rfl,rfl⟩:=hrel;go_wp2;go_ret;exact⟨rfl,rfl⟩
set_option maxHeartbeats 1000000 in
theorem flSpans_of{a n:Nat}(ha:a<=100000)(hn:n<=100000)(w:World):Calls Tryz.prog 33 #[.int .i64 a,.int .i64 n] w fun e w'=>∃ v,e=.returned v/\SR w' w.heap.size v (spL a n)/\Below w.heap.size w w':=by
 have H0:Hid (SR w w.heap.size (.slice none 0 0) ((spL a n).take 0)/\Below w.heap.size w w):=hid ⟨sr_nil w _,Below.refl _ _⟩;have HST:Hid (∀ k,k<spN a n->dnS a n k<n/\dnS a n k<dnS a n (k+1)/\dnS a n (k+1)-dnS a n k=min (256-(a+dnS a n k)%256) (n-dnS a n k)/\(a+dnS a n k) / 256=a / 256+k):=hid fun k=>Zkl
 have HEND:=hid (dnS_end a n);have HLE:=hid (dnS_le a n);have HTK:Hid (∀ k,k<spN a n->(spL a n).take (k+1)=(spL a n).take k ++ [spA a n k]):=hid fun k hk=>by
  rw[List.take_succ_eq_append_getElem (by rw[Zhu];exact hk),spL_get hk]
 have HFU:Hid ((spL a n).take (spN a n)=spL a n):=hid (List.take_of_length_le (by rw[Zhu];exact Nat.le_refl _));have HTL:Hid (∀ k,((spL a n).take k).length<=1000000):=hid fun k=>by
  rw[List.length_take,Zhu];unfold spN;split <;> omega
 have HZ:Hid (dnS a n 0=0):=hid (dnS_zero a n);obtain⟨L,hL⟩:∃ L,L=spL a n:=⟨_,rfl⟩;rw[<- hL] at H0 HTK HFU HTL |-
 obtain⟨c,hc⟩:∃ c,c=spN a n:=⟨_,rfl⟩;rw[<- hc] at HST HEND HTK HFU;have HSPA:Hid (∀ k,spA a n k=[((a / 256+k:Nat):Int),(((a+dnS a n k)%256:Nat):Int),(((a+dnS a n k)%256+(dnS a n (k+1)-dnS a n k):Nat):Int)]):=hid fun _=>rfl
 clear hL hc;go_enter Tryz.func33,Tryz.ntmps33;go_wp2;go_loopw [0,1,5] (fun x y v wr=>∃ k:Nat,k<=c/\x=.int .i64 ((a+dnS a n k:Nat):Int)/\y=.int .i64 ((n-dnS a n k:Nat):Int)/\Hid (SR wr w.heap.size v (L.take k)/\Below w.heap.size w wr)) (fun _ y _ _=>(intOf y).toNat)
 case atStart=>exact⟨0,Nat.zero_le _,by rw[HZ.out];rfl,by rw[HZ.out];rfl,H0⟩
 case round=>
  obtain⟨k,hk,rfl,rfl,HS⟩:=hrel;clear H0;by_cases hlt:k<c
  . obtain⟨s1,s2,s3,s4⟩:=HST.out k hlt
    have hle:=HLE.out k;obtain⟨A,hA⟩:∃ A,A=a+dnS a n k:=⟨_,rfl⟩;obtain⟨R,hR⟩:∃ R,R=n-dnS a n k:=⟨_,rfl⟩;obtain⟨f,hf⟩:∃ f,f=A%256:=⟨_,rfl⟩;obtain⟨q,hq⟩:∃ q,q=A / 256:=⟨_,rfl⟩;obtain⟨t,ht⟩:∃ t,t=min (f+R) 256:=⟨_,rfl⟩;have HSP:Hid (spA a n k=[(q:Int),(f:Int),(t:Int)]):=hid (by
     rw[HSPA.out k,<- hA,<- hf,s3,<- hA,<- hf,<- hR,<- s4,<- hA,<- hq];congr 3;omega)
    have HN1:Hid (a+dnS a n (k+1)=A+(t-f)/\n-dnS a n (k+1)=R-(t-f)):=hid (by
     rw[<- hA] at s3;omega)
    rw[<- hA,<- hR];have hA2:A<=200000:=by omega
    have hR2:R<=100000:=by omega
    have hR0:0<R:=by omega
    have hf2:f<256:=by omega
    have hft:f<t:=by omega
    have ht2:t<=256:=by omega
    have htR:t-f<=R:=by omega
    have e1:((A:Int)).tmod 256=(f:Int):=by rw[Int.tmod_eq_emod_of_nonneg (by omega)];omega
    have e2:((A:Int)).tdiv 256=(q:Int):=by rw[Int.tdiv_eq_ediv_of_nonneg (by omega)];omega
    have e3:min ((f:Int)+(R:Int)) 256=(t:Int):=by omega
    have hq2:q<=1000:=by omega
    have eR:(0:Int)<(R:Int):=by omega
    have hown:=HS.out.1;have hbel:=HS.out.2;have HSZ:=hid hbel.size;have HTK1:=hid (HTK.out k hlt);have HOW:=hid hown;have HBE:=hid hbel;clear s1 s2 s3 s4 hle hA hR hf hq ht HS hown hbel
    go_wp2_with (first
     |(with_reducible refine wpList_slice_sp rfl (.tmp 21) rfl [(q:Int),(f:Int),(t:Int)] rfl rfl ?_)
     |(at_builtin
       refine wpList_append_sp wr [(q:Int),(f:Int),(t:Int)] rfl rfl (.tmp 16) (.tmp 22) rfl w.heap.size _ (L.take k) rfl HOW.out (HTL.out k) rfl HSZ.out ?_;intro v2 w2 hs2 hb2))
    have HS2:Hid (SR w2 w.heap.size v2 (L.take (k+1))/\Below w.heap.size w w2):=hid ⟨by rw[HTK1.out,HSP.out];exact hs2,HBE.out.trans hb2⟩;clear hs2 hb2;go_roundw
    case rel=>exact⟨k+1,by omega,by rw[HN1.out.1];congr 1;omega,by rw[HN1.out.2];congr 1;omega,HS2⟩
    case measure=>simp[intOf];omega
  . obtain rfl:k=c:=by omega
    rw[HEND.out,Nat.sub_self];have HS2:=HS;rw[HFU.out] at HS2;clear HS;go_wp2;go_ret;exact⟨_,rfl,HS2.out.1,HS2.out.2⟩
section
variable {w:World}{P:Nat->Prop}{d p:Value}{X:XSt}{S:List Int}{N:List (List Int)}{O:List (Int × Int)}{kk:Nat}{F:Nat->List Int}{bf n sz:Nat}{M:Nat->Option (List Int)}{Q:List Int}
def SpV(w:World)(B:Nat)(v:Value)(a K:Nat):Prop:=
 ∃ ao cap,v=.slice ao (spN a K) cap/\(0<spN a K->∃ g,ao=some ⟨g,0,none⟩/\B<=g/\g<w.heap.size/\∀ k,k<spN a K->w.cell? ⟨g,k*3,none⟩=some (.int .i64 ((a / 256+k:Nat):Int))/\w.cell? ⟨g,k*3+1,none⟩=some (.int .i64 (((a+dnS a K k)%256:Nat):Int))/\
   w.cell? ⟨g,k*3+2,none⟩=some (.int .i64 (((a+dnS a K k)%256+(dnS a K (k+1)-dnS a K k):Nat):Int)))
theorem SR.spv{B:Nat}{v:Value}{a K:Nat}(h:SR w B v (spL a K)):SpV w B v a K:=by
 by_cases h0:0<spN a K
 . obtain⟨g,cap,hv,hB,hg,_,hc⟩:=h.cells (by rw[Zhu];exact h0)
   rw[Zhu] at hv;refine⟨_,cap,hv,fun _=>⟨g,rfl,hB,hg,fun k hk=>?_⟩⟩;have hx:=fun j hj=>hc k (by rw[Zhu];exact hk) j hj
   rw[spL_get hk] at hx;exact⟨hx 0 (by decide),hx 1 (by decide),hx 2 (by decide)⟩
 . rcases h.2.2 with⟨hv,hl⟩| ⟨g,cap,cur,hv,_⟩
   . exact⟨none,0,by rw[hv];congr 1;omega,fun e=>absurd e h0⟩
   . rw[Zhu] at hv
     exact⟨_,_,hv,fun e=>absurd e h0⟩
theorem flSpans_any{a K:Nat}{Z:Int}(hZ:Z=(K:Int)\/(K=0/\¬ 0<Z))(ha:0<K->a<=100000)(hK:K<=100000)(w:World):Calls Tryz.prog 33 #[.int .i64 a,.int .i64 Z] w fun e w'=>∃ v,e=.returned v/\SpV w' w.heap.size v a K/\Below w.heap.size w w':=by
 by_cases h0:0<K
 . obtain rfl:Z=(K:Int):=by omega
   exact(flSpans_of (ha h0) hK w).mono fun e w' ⟨v,he,hs,hb⟩=>⟨v,he,hs.spv,hb⟩
 . have e0:K=0:=by omega
   subst e0;refine(flSpans_none (a:=(a:Int)) (n:=Z) (by omega) w).mono ?_;rintro e w' ⟨he,rfl⟩;exact⟨_,he,⟨none,0,rfl,fun h=>absurd h (by unfold spN;rw[if_pos rfl];omega)⟩,Below.refl _ _⟩
theorem ob_nil15(w:World)(B:Nat):OB w B (.slice none 0 0) []:=⟨Zfb,World.ownsRow_nil w B _ _⟩
set_option maxHeartbeats 2000000 in
theorem flRead_of(h:Frd w P d p X S N O kk F bf)(ft:Fat X.cur N F n sz M)(h1:1<=n)(h48:n<48){a m:Nat}(ha:(a:Int)<=9223372036854775807)(hm:(m:Int)<=9223372036854775807):
 Calls Tryz.prog 15 #[.pointer (some ⟨bf,0,none⟩),.int .i64 n,.int .i64 a,.int .i64 m] w fun e w'=>∃ v,e=.returned (.tuple #[v,.int .i64 0])/\OB w' w.heap.size v (rdB M a (min m (sz-a)))/\Below w.heap.size w w':=by
 have hsb:=ft.sb;obtain⟨K,hK⟩:∃ K,K=min m (sz-a):=⟨_,rfl⟩;rw[<- hK];have KF0:=Zck h h1 h48 ft.k0;have hsz:=ft.zs;have hx:=h.tab.n.get h48;generalize N.getD n []=x at KF0 hsz hx;obtain⟨kd,ln,sz',d0,d1,d2,d3,d4,d5,d6,d7,d8,d9,mp,rfl⟩:=Zgg hx;have hsz2:sz'=(sz:Int):=hsz;subst hsz2;have KF:Hid (Calls Tryz.prog 32 #[.pointer (some ⟨bf,0,none⟩),.int .i64 n] w fun e w'=>e=.returned (.tuple #[.agg #[.int .i64 kd,.int .i64 ln,.int .i64 sz,.int .i64 d0,.int .i64 d1,.int .i64 d2,.int .i64 d3,.int .i64 d4,.int .i64 d5,.int .i64 d6,.int .i64 d7,.int .i64 d8,.int .i64 d9,.int .i64 mp],.int .i64 0])/\Below w.heap.size w w'):=hid KF0;have KS:=hid (fun V=>flSpans_any (a:=a) (K:=K) (Z:=min (m:Int) ((sz:Int)-(a:Int))) (by omega) (by omega) (by omega) V);have KR:=hid (fun V (hV:Below w.heap.size w V) i (hi:i<138)=>Ziw (h.low hV) ft h1 h48 hi);have HOK:=hid ft.ok;have e1:(0:Int)<=(a:Int):=by omega
 have e2:(0:Int)<=(m:Int):=by omega
 have e3:IntKind.i64.wrap ((sz:Int)-(a:Int))=(sz:Int)-(a:Int):=IntWalk.i64_in _ (by omega);have HEND:=hid (dnS_end a K);have HST:Hid (∀ k,k<spN a K->dnS a K k<K/\dnS a K k<dnS a K (k+1)/\dnS a K (k+1)-dnS a K k=min (256-(a+dnS a K k)%256) (K-dnS a K k)/\(a+dnS a K k) / 256=a / 256+k/\a / 256+k<138/\a+K<=35328):=hid fun k hk=>by
  obtain⟨s1,s2,s3,s4⟩:=Zkl hk;exact⟨s1,s2,s3,s4,by omega,by omega⟩
 have hcb:spN a K<=1000:=by
  unfold spN;split <;> omega
 have HZ:Hid (dnS a K 0=0):=hid (dnS_zero a K);have HFS:=hid (fun V (hV:Below w.heap.size w V)=>(h.fs.low hV).cell);clear h ft KF0 hsz hx hK;go_enter Tryz.func15,Tryz.ntmps15
 go_wp2_with (first
  |(go_at_call 32;refine KF.out.mono ?_;rintro e w2 ⟨rfl,hb2⟩
    have hb3:=hb2.trans ((Zaa w2 (.cells #[.int .i64 kd,.int .i64 ln,.int .i64 sz,.int .i64 d0,.int .i64 d1,.int .i64 d2,.int .i64 d3,.int .i64 d4,.int .i64 d5,.int .i64 d6,.int .i64 d7,.int .i64 d8,.int .i64 d9,.int .i64 mp] 47)).mono hb2.size))
  |(go_at_call 33;refine(KS.out _).mono ?_;rintro e w4 ⟨v,rfl,hv4,hb4⟩;obtain⟨ao,cap,rfl,hcells⟩:=hv4))
 have HB4:Hid (Below w.heap.size w w4):=hid (hb3.trans (hb4.mono hb3.size));have HCE:=hid hcells;obtain⟨c,hc⟩:∃ c,c=spN a K:=⟨_,rfl⟩;rw[<- hc] at HCE HST HEND hcb |-
 have H0:Hid (OB w4 w4.heap.size (.slice none 0 0) (rdB M a (dnS a K 0))/\Below w4.heap.size w4 w4):=hid ⟨by rw[HZ.out];exact ob_nil15 _ _,Below.refl _ _⟩;clear hb2 hb3 hb4 hcells hc;go_loopw [12,42] (fun b i wr=>∃ k:Nat,k<=c/\i=.int .i64 k/\Hid (OB wr w4.heap.size b (rdB M a (dnS a K k))/\Below w4.heap.size w4 wr)) (fun _ i _=>c-(intOf i).toNat)
 case atStart=>exact⟨0,Nat.zero_le _,rfl,H0⟩
 case round=>
  obtain⟨k,hk,rfl,HS⟩:=hrel;clear H0;by_cases hlt:k<c
  . obtain⟨g,rfl,hgB,hg,hce⟩:=HCE.out (by omega)
    obtain⟨s1,s2,s3,s4,s5,s6⟩:=HST.out k hlt;have hbw:=HB4.out.trans (HS.out.2.mono HB4.out.size);obtain⟨c0,c1,c2⟩:=hce k hlt;have hcw:=fun(p:Addr) (hp:p.block<w4.heap.size)=>HS.out.2.cell hp
    rw[<- hcw ⟨g,_,none⟩ hg] at c0 c1 c2;obtain⟨A,hA⟩:∃ A,A=a+dnS a K k:=⟨_,rfl⟩;obtain⟨f,hf⟩:∃ f,f=A%256:=⟨_,rfl⟩;obtain⟨q,hq⟩:∃ q,q=a / 256+k:=⟨_,rfl⟩;obtain⟨s,hs⟩:∃ s,s=dnS a K (k+1)-dnS a K k:=⟨_,rfl⟩;obtain⟨t,ht⟩:∃ t,t=f+s:=⟨_,rfl⟩;rw[<- hq] at c0;rw[<- hA,<- hf] at c1 c2;rw[<- hs,<- ht] at c2;rw[<- hA,<- hf,<- hs] at s3;have hf256:f<256:=by omega
    have hs0:0<s:=by omega
    have ht256:t<=256:=by omega
    have hft:f<=t:=by omega
    have HTF:Hid (t-f=s):=hid (by omega);have HRD:Hid (rdB M a (dnS a K (k+1))=rdB M a (dnS a K k) ++ ((bkB M q).drop f).take s):=hid (by
     have e:dnS a K (k+1)=dnS a K k+s:=by omega
     rw[e,rdB_more,rdB_block HOK.out (a:=a+dnS a K k) (i:=q) (o:=f) (n:=s) (by omega) (by omega)])
    have HLE:Hid (f+s<=256):=hid (by omega);have hb1:=Zaa wr (.cells #[.int .i64 q,.int .i64 f,.int .i64 t] 78);have hr1:(wr.alloc (.cells #[.int .i64 q,.int .i64 f,.int .i64 t] 78)).heap[wr.heap.size]? =some (.cells #[.int .i64 q,.int .i64 f,.int .i64 t] 78 (0,0)):=heap_alloc_new wr _;have HRB:=hid (KR.out _ (hbw.trans (hb1.mono hbw.size)) q (by omega));have HSP:Hid (∀ V,Below (wr.alloc (.cells #[.int .i64 q,.int .i64 f,.int .i64 t] 78)).heap.size (wr.alloc (.cells #[.int .i64 q,.int .i64 f,.int .i64 t] 78)) V->V.cell? ⟨wr.heap.size,1,none⟩=some (.int .i64 f)/\V.cell? ⟨wr.heap.size,2,none⟩=some (.int .i64 t)):=hid fun V hV=>by
     have:=Zad hr1 hV;exact⟨by rw[cell_of_row _ _ _ _ _ _ this];rfl,by rw[cell_of_row _ _ _ _ _ _ this];rfl⟩
    have HB1:=hid hb1;have HOB:=hid HS.out.1;have HBR:=hid HS.out.2;have HLL:Hid ((rdB M a (dnS a K k)).length+(((bkB M q).drop f).take s).length<=140737488355328):=hid (by
     have h1:dnS a K k<=100000:=by omega
     have h2:(((bkB M q).drop f).take s).length<=s:=by rw[List.length_take];exact Nat.min_le_left _ _
     rw[Zle];omega)
    have ek:(k:Int)<(c:Int):=by omega
    clear s1 s2 s3 s4 s5 s6 hbw hcw hA hf hq hs ht hb1 hr1 HS hce
    go_wp2_with (first
     |(go_at_call 34;refine HRB.out.mono ?_;rintro e w6 ⟨g2,cap2,T2,rest2,rfl,hr6,hb6⟩
       obtain⟨x1,x2⟩:=HSP.out _ hb6;have hcp:=hr6.cap;have HB6:Hid (Below wr.heap.size wr w6):=hid (HB1.out.trans (hb6.mono HB1.out.size));have HBS:Hid (BSl w6 (.slice (some ⟨g2,0+f,none⟩) s (cap2-f)) (((bkB M q).drop f).take s)):=hid (by
        have:=hr6.bsl;rw[show(256:Nat)=(bkB M q).length from hr6.len.symm] at this;exact this.mid f s (by rw[hr6.len];exact HLE.out))
       have HOB6:=hid (HOB.out.below HB6.out);have HSZ6:Hid (w4.heap.size<=w6.heap.size):=hid (Nat.le_trans HBR.out.size HB6.out.size);clear hr6 hb6)
     |(with_reducible refine Zen rfl (.tmp 59) (.tmp 61) (.tmp 63) rfl g2 0 256 cap2 rfl (f:Int) (t:Int) rfl rfl f t s HTF.out rfl rfl hft (by omega) (by omega) ?_)
     |(at_builtin
       refine Zah w6 rfl (.tmp 58) (.tmp 64) rfl w4.heap.size _ (rdB M a (dnS a K k)) rfl HOB6.out w6 (.slice (some ⟨g2,0+f,none⟩) s (cap2-f)) (((bkB M q).drop f).take s) rfl HBS.out (fun _ _=>rfl) HLL.out HSZ6.out ?_;intro v7 w7 hob7 hbe7 _))
    have HOB7:Hid (OB w7 w4.heap.size v7 (rdB M a (dnS a K (k+1)))/\Below w4.heap.size w4 w7):=hid ⟨by rw[HRD.out];exact hob7,HBR.out.trans ((HB6.out.mono HBR.out.size).trans hbe7)⟩;clear hob7 hbe7;clear x1 x2 hcp;have hk1:k+1<=c:=by omega
    have hkm:c-(k+1)<c-k:=by omega
    go_roundw
    case rel=>exact⟨k+1,hk1,by go_num,HOB7⟩
    case measure=>simp[intOf];omega
  . obtain rfl:k=c:=by omega
    rw[HEND.out] at HS;go_wp2;go_ret2;exact⟨_,rfl,HS.out.1.more HB4.out.size,HB4.out.trans (HS.out.2.mono HB4.out.size)⟩
end
section
variable {w:World}{P:Nat->Prop}{d p:Value}{X:XSt}{S:List Int}{N:List (List Int)}{O:List (Int × Int)}{kk:Nat}{F:Nat->List Int}{bf n sz:Nat}{M:Nat->Option (List Int)}{Q:List Int}
theorem Flt.size(h:Flt w P d p X S N O kk F bf n sz M Q)(h1:1<=n)(h48:n<48)(hQ:Q.length<=36){v:Nat}(hv:v<=35328):
 Calls Tryz.prog 39 #[.pointer (some ⟨bf,0,none⟩),.int .i64 n,.int .i64 v] w fun e w'=>e=.returned (.int .i64 0)/\FlO w P d p X S N O kk F bf n Q v M 0 noR w':=by
 obtain⟨s1,s2,s3,s4⟩:=h.ft.size h.md.pl h1 h48 hv;have hx:=h.md.pl.tab.n.get h48;have hn:n<N.length:=by rw[h.md.pl.tab.n.len];exact h48
 refine(flSetSize_of h.md h1 h48 (by have:=h.q.le;omega) s3).mono ?_;rintro e w' ⟨he,P',hi,hg⟩;obtain⟨hfs,hnb⟩:=h.md.fs.chg hg h.md.nb;have hy:(N.set n ((N.getD n []).set 2 (v:Int))).getD n []=(N.getD n []).set 2 (v:Int):=by rw[Zcm hn,if_pos rfl]
 refine⟨he,P',putI X S N n ((N.getD n []).set 2 (v:Int)),N.set n ((N.getD n []).set 2 (v:Int)),O,F,Q,⟨⟨hi,h.md.wi,s2,h.md.st,hfs,hnb⟩,s1,h.q.add h.bs.t rfl,?_,h.rm⟩,s4 _ rfl ⟨rfl,rfl⟩,fun _ h=>h,Nat.le_refl _,hg,trivial⟩;rw[hy,Zav (by omega),if_neg (by omega)];exact h.bs
theorem Flt.cut(h:Flt w P d p X S N O kk F bf n sz M Q)(h1:1<=n)(h48:n<48)(hQ:Q.length<=35){a:Nat}(ha:a<=1000):
 Calls Tryz.prog 40 #[.pointer (some ⟨bf,0,none⟩),.int .i64 n,.int .i64 a] w fun e w'=>e=.returned (.int .i64 0)/\FlO w P d p X S N O kk F bf n Q sz (fun i=>if a<=i then none else M i) 0 noR w':=by
 refine(fmCut_of h.md h1 h48 h.ft.k0 (a:=a) (by omega) h.q hQ h.bs).mono ?_;rintro e w' ⟨he,P',X',N',O',F',hm,hr,hg⟩;have hft:=h.ft.cut h.md.pl hr h1 h48;have hfs:=hr.st.fst h.md.pl hr.on;have hc:=h.cnt hft hfs;have hle:Zar (fun i=>if a<=i then none else M i)<=Zar M:=Zft fun i _ e=>by
  have e:(if a<=i then none else M i).isSome=true:=e;split at e
  . cases e
  . exact e
 have hrm:=h.rm;refine⟨he,P',X',N',O',F',Q,⟨hm,hft,hr.pt,⟨h.bs.g,h.bs.t,fun e=>?_⟩,by omega⟩,hfs,fun _ h=>h,Nat.le_refl _,hg,trivial⟩;obtain⟨e1,b,b1,b2,b3⟩:=hr.mp.1 e;have:=hr.mq e;rw[this];exact h.bs.m e1
theorem rsB_flat{M:Nat->Option (List Int)}{v:Nat}(h:v%256=0):(fun i=>if (v+255) / 256<=i then none else M i)=rsB M v:=by
 funext i;unfold rsB;by_cases c:v<=256*i
 . rw[if_pos c,if_pos (by omega)]
 . rw[if_neg c,if_neg (by omega)]
   cases hm:M i
   . rfl
   . next l=>
     show some l=some (if v<256*i+256 then _ else l)
     rw[if_neg (by omega)]
theorem rsB_part{M:Nat->Option (List Int)}{v:Nat}(h:¬ v%256=0):wipB (fun i=>if (v+255) / 256<=i then none else M i) (v / 256) (v%256)=rsB M v:=by
 funext i;unfold rsB wipB;by_cases e:i=v / 256
 . subst e
   have e1:(if (v+255) / 256<=v / 256 then none else M (v / 256))=M (v / 256):=if_neg (by omega);rw[if_pos rfl,if_neg (by omega)];show Option.map _ (if (v+255) / 256<=v / 256 then none else M (v / 256))=_
   rw[e1];cases hm:M (v / 256)
   . rfl
   . next l=>
     show some _=some (if v<256*(v / 256)+256 then _ else l)
     rw[if_pos (by omega),show v-256*(v / 256)=v%256 by omega]
 . rw[if_neg e]
   show(if (v+255) / 256<=i then none else M i)=_
   by_cases c:v<=256*i
   . rw[if_pos c,if_pos (by omega)]
   . rw[if_neg c,if_neg (by omega)]
     cases hm:M i
     . rfl
     . next l=>
       show some l=some (if v<256*i+256 then _ else l)
       rw[if_neg (by omega)]
set_option maxHeartbeats 1000000 in
theorem flResize_of(h:Flt w P d p X S N O kk F bf n sz M Q)(h1:1<=n)(h48:n<48)(hQ:Q.length<=34){v:Nat}(hv:v<=35328):
 Calls Tryz.prog 20 #[.pointer (some ⟨bf,0,none⟩),.int .i64 n,.int .i64 v] w fun e w'=>e=.returned (.int .i64 0)/\FlO w P d p X S N O kk F bf n Q v (rsB M v) 1 noR w':=by
 have KF0:=Zck h.md.rd h1 h48 h.ft.k0;have hx:=h.md.pl.tab.n.get h48;generalize N.getD n []=x at KF0 hx;obtain⟨kd,ln,sz',d0,d1,d2,d3,d4,d5,d6,d7,d8,d9,mp,rfl⟩:=Zgg hx;have KF:Hid (Calls Tryz.prog 32 #[.pointer (some ⟨bf,0,none⟩),.int .i64 n] w fun e w'=>e=.returned (.tuple #[.agg #[.int .i64 kd,.int .i64 ln,.int .i64 sz',.int .i64 d0,.int .i64 d1,.int .i64 d2,.int .i64 d3,.int .i64 d4,.int .i64 d5,.int .i64 d6,.int .i64 d7,.int .i64 d8,.int .i64 d9,.int .i64 mp],.int .i64 0])/\Below w.heap.size w w'):=hid KF0;obtain⟨c,hc⟩:∃ c,c=(v+255) / 256:=⟨_,rfl⟩;have e0:(0:Int)<=(v:Int):=by omega
 have e1:(v:Int)<=35328:=by omega
 have e2:((v:Int)+256-1).tdiv 256=(c:Int):=by rw[Int.tdiv_eq_ediv_of_nonneg (by omega)];omega
 have e3:((v:Int)+256-1) / 256=(c:Int):=by omega
 by_cases hz:v%256=0
 . have e4:(v:Int).tmod 256=0:=by rw[Int.tmod_eq_emod_of_nonneg (by omega)];omega
   have e5:(v:Int)%256=0:=by omega
   have KC:Hid (∀ V,Below w.heap.size w V->Calls Tryz.prog 40 #[.pointer (some ⟨bf,0,none⟩),.int .i64 n,.int .i64 c] V fun e w2=>e=.returned (.int .i64 0)/\
    Calls Tryz.prog 39 #[.pointer (some ⟨bf,0,none⟩),.int .i64 n,.int .i64 v] w2 fun e w'=>e=.returned (.int .i64 0)/\FlO w P d p X S N O kk F bf n Q v (rsB M v) 1 noR w'):=hid fun V hV=>by
    refine((h.low hV).cut h1 h48 (by omega) (a:=c) (by omega)).mono ?_;rintro e w2 ⟨he,P2,X2,N2,O2,F2,Q2,a2,b2,c2,d2,f2,_⟩;refine⟨he,(a2.size h1 h48 (by omega) hv).mono ?_⟩;rintro e w3 ⟨he,ho⟩;rw[hc,rsB_flat hz] at ho;obtain⟨P',X',N',O',F',Q',a,b,c,e2,f,g⟩:=FlO.then (j:=0) b2 c2 d2 ((Chg.of_below hV).trans f2) ho;exact⟨he,P',X',N',O',F',Q',a,b,c,by omega,f,g⟩
   clear h hx KF0 hz hc;go_enter Tryz.func20,Tryz.ntmps20
   go_wp2_with (first
    |(go_at_call 32;refine KF.out.mono ?_;rintro e w2 ⟨rfl,hb2⟩
      have hb3:=hb2.trans ((Zaa w2 (.cells #[.int .i64 kd,.int .i64 ln,.int .i64 sz',.int .i64 d0,.int .i64 d1,.int .i64 d2,.int .i64 d3,.int .i64 d4,.int .i64 d5,.int .i64 d6,.int .i64 d7,.int .i64 d8,.int .i64 d9,.int .i64 mp] 47)).mono hb2.size))
    |(go_at_call 40;refine(KC.out _ hb3).mono ?_;rintro e w4 ⟨rfl,KS⟩)
    |(go_at_call 39;refine KS.mono ?_;rintro e w5 ⟨rfl,hO⟩))
   go_ret;exact⟨rfl,hO⟩
 . obtain⟨q,hq⟩:∃ q,q=v / 256:=⟨_,rfl⟩
   obtain⟨o,ho⟩:∃ o,o=v%256:=⟨_,rfl⟩;have e4:(v:Int).tmod 256=(o:Int):=by rw[Int.tmod_eq_emod_of_nonneg (by omega)];omega
   have e5:(v:Int).tdiv 256=(q:Int):=by rw[Int.tdiv_eq_ediv_of_nonneg (by omega)];omega
   have e6:(v:Int)%256=(o:Int):=by omega
   have e7:(v:Int) / 256=(q:Int):=by omega
   have e8:(0:Int)<(o:Int):=by omega
   have KC:Hid (∀ V,Below w.heap.size w V->Calls Tryz.prog 40 #[.pointer (some ⟨bf,0,none⟩),.int .i64 n,.int .i64 c] V fun e w2=>e=.returned (.int .i64 0)/\
    Calls Tryz.prog 41 #[.pointer (some ⟨bf,0,none⟩),.int .i64 n,.int .i64 q,.int .i64 o] w2 fun e w3=>e=.returned (.int .i64 0)/\
    Calls Tryz.prog 39 #[.pointer (some ⟨bf,0,none⟩),.int .i64 n,.int .i64 v] w3 fun e w'=>e=.returned (.int .i64 0)/\FlO w P d p X S N O kk F bf n Q v (rsB M v) 1 noR w'):=hid fun V hV=>by
    refine((h.low hV).cut h1 h48 (by omega) (a:=c) (by omega)).mono ?_;rintro e w2 ⟨he,P2,X2,N2,O2,F2,Q2,a2,b2,c2,d2,f2,_⟩;refine⟨he,(flWipe_of a2 h1 h48 (i:=q) (o:=o) (by omega) (by omega) (by omega)).mono ?_⟩;rintro e w3 ⟨he3,P3,X3,N3,O3,F3,Q3,a3,b3,c3,d3,f3,_⟩;refine⟨he3,(a3.size h1 h48 (by omega) hv).mono ?_⟩;rintro e w4 ⟨he4,ho4⟩;rw[hc,hq,ho,rsB_part hz] at ho4;have h34:=FlO.then (j:=1) b3 c3 d3 f3 ho4;obtain⟨P',X',N',O',F',Q',a,b,c,e2,f,g⟩:=FlO.then (j:=0) b2 c2 d2 ((Chg.of_below hV).trans f2) h34;exact⟨he4,P',X',N',O',F',Q',a,b,c,by omega,f,g⟩
   clear h hx KF0 hz hc hq ho;go_enter Tryz.func20,Tryz.ntmps20
   go_wp2_with (first
    |(go_at_call 32;refine KF.out.mono ?_;rintro e w2 ⟨rfl,hb2⟩
      have hb3:=hb2.trans ((Zaa w2 (.cells #[.int .i64 kd,.int .i64 ln,.int .i64 sz',.int .i64 d0,.int .i64 d1,.int .i64 d2,.int .i64 d3,.int .i64 d4,.int .i64 d5,.int .i64 d6,.int .i64 d7,.int .i64 d8,.int .i64 d9,.int .i64 mp] 47)).mono hb2.size))
    |(go_at_call 40;refine(KC.out _ hb3).mono ?_;rintro e w4 ⟨rfl,KW⟩)
    |(go_at_call 41;refine KW.mono ?_;rintro e w5 ⟨rfl,KS⟩)
    |(go_at_call 39;refine KS.mono ?_;rintro e w6 ⟨rfl,hO⟩))
   go_ret;exact⟨rfl,hO⟩
end
end Go.Proofs.YtedabomlfcghoaaGreat
