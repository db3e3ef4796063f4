/- What the law rests on: part 6. -/
import Derived.Deep.Cut
import Derived.Test.YtedabomlfcghoaaGreatKG5
set_option linter.unusedVariables false
namespace Go.Proofs.YtedabomlfcghoaaGreat
set_option maxRecDepth 100000
open Go.RowKit
def appU(U:List (Nat × List Int))(F:List (List Int)):List (List Int):=U.foldl (fun f x=>f.set x.1 x.2) F
theorem appU_append(U W:List (Nat × List Int))(F:List (List Int)):appU (U ++ W) F=appU W (appU U F):=List.foldl_append
theorem appU_snoc(U:List (Nat × List Int))(x:Nat × List Int)(F:List (List Int)):appU (U ++ [x]) F=(appU U F).set x.1 x.2:=appU_append _ _ _
theorem Zaj:∀ (U:List (Nat × List Int)) (F:List (List Int)),(appU U F).length=F.length
 |[],F=>rfl
 |x :: U,F=>by
  show(appU U (F.set x.1 x.2)).length=_
  rw[Zaj U,List.length_set]
theorem Zbd:∀ (U:List (Nat × List Int)) (F:List (List Int)) (i:Nat),(∀ x∈U,x.1≠i)->(appU U F).getD i []=F.getD i []
 |[],F,i,_=>rfl
 |x :: U,F,i,h=>by
  show(appU U (F.set x.1 x.2)).getD i []=_
  rw[Zbd U _ i fun y hy=>h y (List.mem_cons_of_mem _ hy),List.getD_eq_getElem?_getD,List.getElem?_set_ne (h x (List.mem_cons_self ..)),<- List.getD_eq_getElem?_getD]
def Zdd(kp:Nat->Bool)(U:List (Nat × List Int)):List (Nat × List Int):=((List.range U.length).filter kp).map fun i=>U.getD i (0,[])
theorem stF_keep(kp:Nat->Bool)(U:List (Nat × List Int))(F:List (List Int)):∀ k,stF kp U F k=appU (((List.range k).filter kp).map fun i=>U.getD i (0,[])) F
 |0=>rfl
 |k+1=>by
  unfold stF;rw[List.range_succ,List.filter_append,List.map_append,appU_append,<- stF_keep kp U F k];cases hk:kp k
  . simp[hk,appU]
  . simp[hk,appU]
theorem keepU_all(U:List (Nat × List Int)):Zdd (fun _=>true) U=U:=by
 unfold Zdd;rw[List.filter_eq_self.2 (fun _ _=>rfl)];apply List.ext_getElem
 . simp
 . intro i h1 h2
   simp[List.getD_eq_getElem?_getD,h2]
theorem Zgh{kp:Nat->Bool}{U:List (Nat × List Int)}{x:Nat × List Int}(h:x∈Zdd kp U):x∈U:=by
 obtain⟨i,hi,rfl⟩:=List.mem_map.1 h;have hl:i<U.length:=List.mem_range.1 (List.mem_filter.1 hi).1;rw[List.getD_eq_getElem?_getD,List.getElem?_eq_getElem hl];exact List.getElem_mem hl
theorem stF_all(U:List (Nat × List Int))(F:List (List Int)):stF (fun _=>true) U F U.length=appU U F:=by
 rw[stF_keep];have:=keepU_all U;unfold Zdd at this;rw[this]
theorem stV_get(U:List (Nat × List Int))(F1 V:List (List Int))(hl:F1.length=V.length)(i:Nat):∀ m,(stV U F1 V m).getD i []=if (∃ j,j<m/\(U.getD j (0,[])).1=i) then F1.getD i [] else V.getD i []
 |0=>by
  rw[if_neg (by rintro⟨j,hj,_⟩;omega)];rfl
 |m+1=>by
  have ih:=stV_get U F1 V hl i m;have hlen:=Zfw U F1 V m;unfold stV;by_cases e:(U.getD m (0,[])).1=i
  . rw[if_pos ⟨m,by omega,e⟩,e]
    by_cases hi:i<V.length
    . simp[List.getD_eq_getElem?_getD,hlen,hi]
    . rw[List.getD_eq_getElem?_getD,List.getElem?_eq_none (by rw[List.length_set];omega),List.getD_eq_getElem?_getD,List.getElem?_eq_none (by omega)]
  . rw[List.getD_eq_getElem?_getD,List.getElem?_set_ne e,<- List.getD_eq_getElem?_getD,ih]
    by_cases h:∃ j,j<m/\(U.getD j (0,[])).1=i
    . obtain⟨j,hj,hji⟩:=h
      rw[if_pos ⟨j,hj,hji⟩,if_pos ⟨j,by omega,hji⟩]
    . rw[if_neg h,if_neg]
      rintro⟨j,hj,hji⟩;by_cases ejm:j=m
      . subst ejm;exact e hji
      . exact h ⟨j,by omega,hji⟩
theorem stV_is(kp:Nat->Bool)(U:List (Nat × List Int))(F:List (List Int)):stV U (stF kp U F U.length) (appU U F) U.length=appU (Zdd kp U) F:=by
 have e1:stF kp U F U.length=appU (Zdd kp U) F:=stF_keep kp U F _;have hl:(appU (Zdd kp U) F).length=(appU U F).length:=by rw[Zaj,Zaj]
 rw[e1];apply List.ext_getElem
 . rw[Zfw,hl]
 . intro i h1 h2
   have:=stV_get U (appU (Zdd kp U) F) (appU U F) hl i U.length;have g1:(stV U (appU (Zdd kp U) F) (appU U F) U.length).getD i []=(stV U (appU (Zdd kp U) F) (appU U F) U.length)[i]:=by simp[List.getD_eq_getElem?_getD,h1]
   have g2:(appU (Zdd kp U) F).getD i []=(appU (Zdd kp U) F)[i]:=by simp[List.getD_eq_getElem?_getD,h2]
   rw[<- g1,this,<- g2];split
   . rfl
   . rename_i hno
     have hU:∀ x∈U,x.1≠i:=fun x hx e=>by
      obtain⟨j,hj,rfl⟩:=List.getElem_of_mem hx;exact hno ⟨j,hj,by rw[List.getD_eq_getElem?_getD,List.getElem?_eq_getElem hj];exact e⟩
     rw[Zbd U F i hU,Zbd _ F i fun x hx=>hU x (Zgh hx)]
structure DS where
 F:List (List Int)
 U:List (Nat × List Int)
 fu:Bool
 le:Int
 dn:Bool
def DS.vis(s:DS):List (List Int):=appU s.U s.F
def DS.ok(s:DS):Bool:=pOk s.fu s.le s.dn
def DS.pay(s:DS):DS:={ s with le:=pLe s.fu s.le s.dn,dn:=pDn s.fu s.le s.dn }
def DS.write(s:DS)(n:Nat)(l:List Int):DS:={ s.pay with U:=s.U ++ [(n,l)] }
def DS.flush(s:DS):DS:={ s.pay with F:=s.vis,U:=[] }
def DS.crash(s:DS)(k:List Bool):DS:=⟨appU (Zdd (kpOf k) s.U) s.F,[],false,0,false⟩
def DS.new(n:Nat):DS:=⟨List.replicate n zb,[],false,0,false⟩
theorem DS.vis_length(s:DS):s.vis.length=s.F.length:=Zaj _ _
theorem DS.write_vis(s:DS)(n:Nat)(l:List Int):(s.write n l).vis=s.vis.set n l:=appU_snoc _ _ _
theorem DS.flush_vis(s:DS):s.flush.vis=s.vis:=rfl
theorem pLe_bound{fu dn:Bool}{le:Int}(h:0<=le/\le<=9223372036854775807):0<=pLe fu le dn/\pLe fu le dn<=9223372036854775807:=by
 unfold pLe;split <;> omega
def DOwn(bp bf bv:Nat)(u:Value)(k:Nat):Prop:=k=bp\/k=bf\/k=bv\/u.ownBlock=some k
def Dk(w:World)(P:Nat->Prop)(p:Value)(s:DS):Prop:=
 ∃ bp bf bv u,p=.pointer (some ⟨bp,0,none⟩)/\DskAt w 0 bp bf bv u s.F s.vis s.U s.fu s.le s.dn/\(0<=s.le/\s.le<=9223372036854775807)/\∀ k,P k ↔ DOwn bp bf bv u k
theorem DskAt.ownlt{w:World}{B bp bf bv:Nat}{u:Value}{F V:List (List Int)}{U:List (Nat × List Int)}{fu dn:Bool}{le:Int}(h:DskAt w B bp bf bv u F V U fu le dn)(k:Nat)(hk:DOwn bp bf bv u k):k<w.heap.size:=by
 rcases hk with rfl|rfl|rfl|hk
 . exact(Array.getElem?_eq_some_iff.1 h.hp).1
 . exact(Array.getElem?_eq_some_iff.1 h.hf).1
 . exact(Array.getElem?_eq_some_iff.1 h.hv).1
 . exact(h.hu.lt k hk).2
theorem Dk.lt{w:World}{P:Nat->Prop}{p:Value}{s:DS}(h:Dk w P p s)(k:Nat)(hk:P k):k<w.heap.size:=by
 obtain⟨bp,bf,bv,u,_,hd,_,hP⟩:=h;exact hd.ownlt k ((hP k).1 hk)
theorem Dk.below{w w':World}{P:Nat->Prop}{p:Value}{s:DS}(h:Dk w P p s)(hb:Below w.heap.size w w'):Dk w' P p s:=by
 obtain⟨bp,bf,bv,u,hp,hd,hl,hP⟩:=h;exact⟨bp,bf,bv,u,hp,hd.below hb,hl,hP⟩
theorem Dk.ptr{w:World}{P:Nat->Prop}{p:Value}{s:DS}(h:Dk w P p s):∃ bp,p=.pointer (some ⟨bp,0,none⟩):=by
 obtain⟨bp,_,_,_,hp,_⟩:=h;exact⟨bp,hp⟩
theorem DskAt.lower{w:World}{B bp bf bv:Nat}{u:Value}{F V:List (List Int)}{U:List (Nat × List Int)}{fu dn:Bool}{le:Int}(h:DskAt w B bp bf bv u F V U fu le dn):DskAt w 0 bp bf bv u F V U fu le dn:=
 { h with bB:=⟨Nat.zero_le _,Nat.zero_le _,Nat.zero_le _⟩,hu:=⟨h.hu.1,h.hu.2.imp id fun⟨g,cap,cur,hv,_,r⟩=>⟨g,cap,cur,hv,Nat.zero_le _,r⟩⟩ }
theorem Chg.of_wrote{bp bf bv:Nat}{u:Value}{P:Nat->Prop}(hP:∀ k,P k ↔ DOwn bp bf bv u k){w w':World}(h:Wrote w w' bp):Chg P P w w':=
 ⟨h.1,h.2.1,h.2.2.1,Nat.le_of_eq h.2.2.2.1.symm,fun k _ hn=>⟨h.2.2.2.2 k fun e=>hn ((hP k).2 (.inl e)),hn⟩⟩
theorem Chg.of_frU{bp bf bv:Nat}{u u':Value}{P:Nat->Prop}(hP:∀ k,P k ↔ DOwn bp bf bv u k){w w':World}(h:FrU w w' bp bf bv u u'):Chg P (DOwn bp bf bv u') w w':=
 ⟨h.os,h.tape,h.output,h.size,fun k hk hn=>by
   have h1:k≠bp:=fun e=>hn ((hP k).2 (.inl e))
   have h2:k≠bf:=fun e=>hn ((hP k).2 (.inr (.inl e)))
   have h3:k≠bv:=fun e=>hn ((hP k).2 (.inr (.inr (.inl e))))
   have h4:u.ownBlock≠some k:=fun e=>hn ((hP k).2 (.inr (.inr (.inr e))))
   refine⟨h.block k hk h1 h2 h3 h4,?_⟩;rintro(e|e|e|e)
   . exact h1 e
   . exact h2 e
   . exact h3 e
   . rcases h.own k e with e|e
     . exact h4 e
     . omega⟩
theorem Chg.of_fr3{bp bf bv:Nat}{u:Value}{P:Nat->Prop}(hP:∀ k,P k ↔ DOwn bp bf bv u k){w w':World}(h:Fr3 w w' bp bf bv):Chg P (DOwn bp bf bv (.slice none 0 0)) w w':=
 Chg.of_frU hP ⟨h.os,h.tape,h.output,h.size,fun k hk h1 h2 h3 _=>h.block k hk h1 h2 h3,fun k hk=>by simp[Value.ownBlock] at hk⟩
def hasI(l:List Int)(n:Int):Bool:=l.any fun x=>x==n
theorem hasI_yes{l:List Int}{n:Int}(k:Nat)(hk:k<l.length)(h:l.getD k 0=n):hasI l n=true:=by
 unfold hasI;rw[List.any_eq_true];refine⟨l[k],List.getElem_mem hk,?_⟩;have e:l.getD k 0=l[k]:=by simp[List.getD_eq_getElem?_getD,hk]
 rw[<- e,h];simp
theorem hasI_no{l:List Int}{n:Int}(h:∀ k,k<l.length->l.getD k 0≠n):hasI l n=false:=by
 unfold hasI;rw[List.any_eq_false];intro x hx;obtain⟨k,hk,rfl⟩:=List.getElem_of_mem hx;have e:l.getD k 0=l[k]:=by simp[List.getD_eq_getElem?_getD,hk]
 have:=h k hk;rw[e] at this
 simpa using this
theorem newT_has(N:List Int)(i:Nat):newT N i=!(hasI (N.take i) (N.getD i 0)):=by
 unfold newT hasI;rw[List.not_any_eq_all_not]
def okN(N:List Int)(i:Nat):Bool:=inP9 (N.getD i 0) && newT N i
def frmNK(N:List Int)(k:Nat):Bool:=(List.range k).all fun i=>okN N i
def Zee(N:List Int):Bool:=decide (N.length<=37) && frmNK N N.length
theorem Zkj(N:List Int)(k:Nat):frmNK N k=true ↔ ∀ i,i<k->okN N i=true:=by
 unfold frmNK;rw[List.all_eq_true];exact⟨fun h i hi=>h i (List.mem_range.2 hi),fun h i hi=>h i (List.mem_range.1 hi)⟩
theorem frmNs_no{N:List Int}(i:Nat)(hi:i<N.length)(h:okN N i=false):Zee N=false:=by
 cases e:Zee N
 . rfl
 . unfold Zee at e
   rw[Bool.and_eq_true] at e;rw[(Zkj N _).1 e.2 i hi] at h;cases h
theorem frmNs_long{N:List Int}(h:37<N.length):Zee N=false:=by
 unfold Zee;rw[decide_eq_false (by omega)];rfl
theorem frmNs_yes{N:List Int}(h1:N.length<=37)(h:∀ i,i<N.length->okN N i=true):Zee N=true:=by
 unfold Zee;rw[decide_eq_true h1,(Zkj N _).2 h];rfl
def whole(D:List (List Int)):Bool:=(List.range D.length).all fun i=>decide ((D.getD i []).length=256)
theorem whole_iff(D:List (List Int)):whole D=true ↔ ∀ i,i<D.length->(D.getD i []).length=256:=by
 unfold whole;rw[List.all_eq_true];exact⟨fun h i hi=>of_decide_eq_true (h i (List.mem_range.2 hi)),fun h i hi=>decide_eq_true (h i (List.mem_range.1 hi))⟩
theorem whole_no{D:List (List Int)}(i:Nat)(hi:i<D.length)(h:(D.getD i []).length≠256):whole D=false:=by
 cases e:whole D
 . rfl
 . exact absurd ((whole_iff D).1 e i hi) h
theorem Zim(N:List Int)(D:List (List Int)):frmT N D=(Zee N && (decide (D.length=N.length) && whole D)):=by
 by_cases h1:N.length<=37
 . by_cases h2:D.length=N.length
   . unfold frmT Zee whole
     rw[decide_eq_true h1,decide_eq_true h2,h2,Bool.true_and,Bool.true_and,Bool.true_and];have:∀ k,frmTK N D k=(frmNK N k && (List.range k).all fun i=>decide ((D.getD i []).length=256)):=fun k=>by
      rw[Bool.eq_iff_iff,Bool.and_eq_true,frmTK_iff,Zkj,List.all_eq_true];constructor
      . intro h
        refine⟨fun i hi=>?_,fun i hi=>?_⟩
        . have:=h i hi
          unfold okT9 at this;unfold okN;rw[Bool.and_eq_true,Bool.and_eq_true] at this;rw[this.1,this.2.2];rfl
        . have:=h i (List.mem_range.1 hi)
          unfold okT9 at this;rw[Bool.and_eq_true,Bool.and_eq_true] at this;exact this.2.1
      . rintro⟨ha,hb⟩ i hi
        have h3:=ha i hi;have h4:=hb i (List.mem_range.2 hi);unfold okN at h3;rw[Bool.and_eq_true] at h3;unfold okT9;rw[h3.1,h3.2,h4];rfl
     exact this _
   . rw[frmT_len h2,decide_eq_false h2];simp
 . rw[frmT_long (by omega),frmNs_long (by omega)];rfl
theorem Zfh{N:List Int}(h:Zee N=true):N.length<=37/\∀ i,i<N.length->0<=N.getD i 0/\N.getD i 0<=767:=by
 unfold Zee at h;rw[Bool.and_eq_true,decide_eq_true_eq,Zkj] at h;refine⟨h.1,fun i hi=>?_⟩;have:=h.2 i hi;unfold okN inP9 at this;rw[Bool.and_eq_true,decide_eq_true_eq] at this;exact this.1
theorem slIndex_of{w:World}{v:Value}{l:List Int}(hs:ISl w v l)(hl:l.length<=1000000)(n:Int):Calls Tryz.prog 234 #[v,.int .i64 n] w fun e w'=>(∃ r:Int,e=.returned (.int .i64 r)/\decide (0<=r)=hasI l n/\ -1<=r/\r<=1000000)/\w=w':=by
 obtain⟨ao,cap,rfl,hc⟩:=hs.open';have hyes:=fun k (hk:k<l.length)=>hasI_yes (l:=l) (n:=n) k hk
 have hno:=hasI_no (l:=l) (n:=n);obtain⟨R,hR⟩:∃ R,R=hasI l n:=⟨_,rfl⟩;rw[<- hR] at hyes hno |-
 obtain⟨N,hN⟩:∃ N,N=l.length:=⟨_,rfl⟩;rw[<- hN] at hc hno hyes hl |-
 have HC:=hid hc;have HNO:=hid hno;have HYE:=hid hyes;clear hc hno hyes hR hs hN;go_enter Tryz.func234,Tryz.ntmps234;go_wp2
 go_loop [8] (fun i=>∃ k:Nat,k<=N/\i=.int .i64 k/\Hid (∀ j,j<k->l.getD j 0≠n)) (fun i=>N-(intOf i).toNat)
 case atStart=>exact⟨0,by omega,rfl,fun j hj=>absurd hj (Nat.not_lt_zero _)⟩
 case round=>
  obtain⟨k,hk,rfl,HK⟩:=hrel;by_cases hlt:k<N
  . obtain⟨b,off,rfl,_,hcc⟩:=HC.out (by omega)
    have hck:=hcc k hlt;have hy1:=HYE.out k hlt;obtain⟨x,hx⟩:∃ x,x=l.getD k 0:=⟨_,rfl⟩;rw[<- hx] at hck hy1;have HX:=hid hx;have HY1:=hid hy1;have ek:(k:Int)<(N:Int):=by omega
    clear hx hcc hy1;by_cases hf:n=x
    . have hR:=HY1.out hf.symm
      subst hR;subst hf;go_wp2;go_ret;exact⟨⟨_,rfl,by simp,by omega,by omega⟩,rfl⟩
    . have HF:=hid hf
      go_wp2
      go_round
      case rel=>
       refine⟨k+1,by omega,by go_num,fun j hj=>?_⟩;by_cases e:j=k
       . subst e;rw[<- HX.out];exact fun h=>HF.out h.symm
       . exact HK.out j (by omega)
      case measure=>simp[intOf];omega
  . obtain rfl:k=N:=by omega
    have hR:=HNO.out HK.out;subst hR;go_wp2;go_ret;exact⟨⟨_,rfl,by decide,by decide,by decide⟩,rfl⟩
theorem slCont_is{w:World}{v:Value}{l:List Int}(hs:ISl w v l)(hl:l.length<=1000000)(n:Int)(B:Bool)(hB:hasI l n=B):Calls Tryz.prog 226 #[v,.int .i64 n] w fun e w'=>e=.returned (.bool B)/\w=w':=by
 have K:=hid (slIndex_of hs hl n);rw[hB] at K;clear hB hs hl;go_enter Tryz.func226,Tryz.ntmps226;go_wp2_with (go_at_call 234;(with_reducible refine K.out.mono ?_);rintro e w2 ⟨⟨r,rfl,hr,hr0,hr1⟩,rfl⟩)
 go_ret;exact⟨by rw[<- hr];rfl,rfl⟩
def ISc(w:World)(v:Value)(l:List Int):Prop:=ISl w v l/\∃ ao cap,v=.slice ao l.length cap/\l.length<=cap
theorem ISc.below{w w':World}{v:Value}{l:List Int}(h:ISc w v l)(hb:Below w.heap.size w w'):ISc w' v l:=⟨h.1.below hb,h.2⟩
theorem IR.isc{w:World}{B:Nat}{v:Value}{l:List Int}(h:IR w B v l):ISc w v l:=by
 refine⟨h.sl,?_⟩;rcases h.2 with⟨hv,hl⟩| ⟨g,cap,cur,hv,hg,hh,hnc,_⟩
 . exact⟨none,0,by rw[hv,hl],by omega⟩
 . exact⟨_,cap,hv,hnc⟩
theorem ISl.take{w:World}{a:Addr}{cap:Nat}{l:List Int}(h:ISl w (.slice (some a) l.length cap) l)(n:Nat)(hn:n<=l.length):ISl w (.slice (some a) n cap) (l.take n):=by
 rcases h with⟨hv,_⟩| ⟨a',c',hv,hc⟩
 . simp at hv
 . obtain⟨rfl,rfl⟩:a=a'/\cap=c':=⟨Option.some.inj (Value.slice.inj hv).1,(Value.slice.inj hv).2.2⟩
   have hl:(l.take n).length=n:=by rw[List.length_take];omega
   refine .inr ⟨a,cap,by rw[hl],fun j hj=>?_⟩;rw[hl] at hj;obtain⟨h1,h2,h3⟩:=hc j (by omega);refine⟨h1,h2,?_⟩;rw[h3];simp[List.getD_eq_getElem?_getD,hj]
theorem tFormN_of{w:World}{v:Value}{l:List Int}(hs:ISc w v l):Calls Tryz.prog 211 #[v] w fun e w'=>e=.returned (.bool (Zee l))/\w=w':=by
 obtain⟨h1,ao,cap,rfl,hcap⟩:=hs;obtain⟨ao',cap',hv,hc⟩:=h1.open';obtain⟨rfl,rfl⟩:ao=ao'/\cap=cap':=⟨(Value.slice.inj hv).1,(Value.slice.inj hv).2.2⟩;by_cases h37:l.length<=37
 . have hno:=fun k hk h=>frmNs_no (N:=l) k hk h
   have hyes:=frmNs_yes h37;obtain⟨R,hR⟩:∃ R,R=Zee l:=⟨_,rfl⟩;have htk:=fun(a:Addr) (h:ao=some a) n hn=>ISl.take (w:=w) (a:=a) (cap:=cap) (l:=l) (by rw[<- h];exact h1) n hn
   have hnt:=fun i=>newT_has l i
   have HTL:=hid (fun n:Nat=>(List.length_take (i:=n) (l:=l)));rw[<- hR] at hno hyes |-
   obtain⟨N,hN⟩:∃ N,N=l.length:=⟨_,rfl⟩;rw[<- hN] at hc hno hyes h37 hcap htk HTL |-
   have HC:=hid hc;have HNO:=hid hno;have HYE:=hid hyes;have HTK:=hid htk;have HNT:=hid hnt;have hle:¬ 37<(N:Int):=by omega
   clear hc hno hyes hR h1 hN hv htk hnt;go_enter Tryz.func211,Tryz.ntmps211;go_wp2
   go_loop [10] (fun i=>∃ k:Nat,k<=N/\i=.int .i64 k/\Hid (∀ j,j<k->okN l j=true)) (fun i=>N-(intOf i).toNat)
   case atStart=>exact⟨0,by omega,rfl,fun j hj=>absurd hj (Nat.not_lt_zero _)⟩
   case round=>
    obtain⟨k,hk,rfl,HK⟩:=hrel;by_cases hlt:k<N
    . obtain⟨b,off,rfl,_,hcc⟩:=HC.out (by omega)
      have hck:=hcc k hlt;have hn1:=HNO.out k hlt;have hok:okN l k=(inP9 (l.getD k 0) && !(hasI (l.take k) (l.getD k 0))):=by unfold okN;rw[HNT.out]
      have htk:=HTK.out _ rfl k (by omega);have htl:(l.take k).length<=1000000:=by rw[HTL.out];omega
      obtain⟨x,hx⟩:∃ x,x=l.getD k 0:=⟨_,rfl⟩;rw[<- hx] at hck hok;have KH:=hid (fun B hB=>slCont_is htk htl x B hB);have HOK:=hid hok;have HN1:=hid hn1;have ek:(k:Int)<(N:Int):=by omega
      have ek2:(k:Int)<=(cap:Int):=by omega
      have ek3:k<=cap:=by omega
      clear hx hcc hn1 hok htk htl;by_cases hlo:x<0
      . have hR:=HN1.out (by rw[HOK.out];unfold inP9;rw[decide_eq_false (by omega)];rfl)
        subst hR;go_wp2;go_ret;exact⟨rfl,rfl⟩
      . by_cases hhi:767<x
        . have hR:=HN1.out (by rw[HOK.out];unfold inP9;rw[decide_eq_false (by omega)];rfl)
          subst hR;go_wp2;go_ret;exact⟨rfl,rfl⟩
        . have hin:inP9 x=true:=decide_eq_true (by omega)
          rw[hin,Bool.true_and] at HOK;obtain⟨B,hB⟩:∃ B,hasI (l.take k) x=B:=⟨_,rfl⟩;have KB:=hid (KH.out B hB);rw[hB] at HOK;have h01:¬ x > 767:=by omega
          clear hB hin KH;cases B
          . go_wp2_with (go_at_call 226;(with_reducible refine KB.out.mono ?_);rintro e w2 ⟨rfl,rfl⟩)
            go_round
            case rel=>
             refine⟨k+1,by omega,by go_num,fun j hj=>?_⟩;by_cases e:j=k
             . subst e;exact HOK.out
             . exact HK.out j (by omega)
            case measure=>simp[intOf];omega
          . have hR:=HN1.out HOK.out
            subst hR;go_wp2_with (go_at_call 226;(with_reducible refine KB.out.mono ?_);rintro e w2 ⟨rfl,rfl⟩)
            go_ret;exact⟨rfl,rfl⟩
    . obtain rfl:k=N:=by omega
      have hR:=HYE.out HK.out;subst hR;go_wp2;go_ret;exact⟨rfl,rfl⟩
 . rw[frmNs_long (by omega)]
   obtain⟨N,hN⟩:∃ N,N=l.length:=⟨_,rfl⟩;rw[<- hN] at h37 |-
   have hle:37<(N:Int):=by omega
   clear hc h1 hv hN;go_enter Tryz.func211,Tryz.ntmps211;go_wp2;go_ret;exact⟨rfl,rfl⟩
theorem tWhole_of{w:World}{v:Value}{L:List (List Int)}(hs:BBSl w v L)(hL:L.length<=1000000):Calls Tryz.prog 201 #[v] w fun e w'=>e=.returned (.bool (whole L))/\w=w':=by
 obtain⟨ao,cap,rfl,_,hc⟩:=hs.open';have hno:=fun k hk h=>whole_no (D:=L) k hk h
 have hyes:=(whole_iff L).2;obtain⟨R,hR⟩:∃ R,R=whole L:=⟨_,rfl⟩;rw[<- hR] at hno hyes |-
 obtain⟨N,hN⟩:∃ N,N=L.length:=⟨_,rfl⟩;rw[<- hN] at hc hno hyes hL |-
 have HC:=hid hc;have HNO:=hid hno;have HYE:=hid hyes;clear hc hno hyes hR hs hN;go_enter Tryz.func201,Tryz.ntmps201;go_wp2
 go_loop [7] (fun i=>∃ k:Nat,k<=N/\i=.int .i64 k/\Hid (∀ j,j<k->(L.getD j []).length=256)) (fun i=>N-(intOf i).toNat)
 case atStart=>exact⟨0,by omega,rfl,fun j hj=>absurd hj (Nat.not_lt_zero _)⟩
 case round=>
  obtain⟨k,hk,rfl,HK⟩:=hrel;by_cases hlt:k<N
  . obtain⟨b,off,rfl,_,hcc⟩:=HC.out (by omega)
    obtain⟨u,hck,hu⟩:=hcc k hlt;have hn1:=HNO.out k hlt;obtain⟨uo,uc,rfl,_⟩:=hu.shape;obtain⟨x,hx⟩:∃ x,x=(L.getD k []).length:=⟨_,rfl⟩;rw[<- hx] at hck hn1;have HX:=hid hx;have HN1:=hid hn1;have ek:(k:Int)<(N:Int):=by omega
    clear hx hcc hn1 hu;by_cases hf:x=256
    . subst hf
      go_wp2
      go_round
      case rel=>
       refine⟨k+1,by omega,by go_num,fun j hj=>?_⟩;by_cases e:j=k
       . subst e;exact HX.out.symm
       . exact HK.out j (by omega)
      case measure=>simp[intOf];omega
    . have hR:=HN1.out hf
      subst hR;have hfi:¬ (x:Int)=256:=by omega
      have hne:((x:Int) != 256)=true:=by simp;omega
      go_wp2;go_ret;exact⟨rfl,rfl⟩
  . obtain rfl:k=N:=by omega
    have hR:=HYE.out HK.out;subst hR;go_wp2;go_ret;exact⟨rfl,rfl⟩
def TxV(w:World)(v:Value)(q:Int)(N:List Int)(D:List (List Int)):Prop:=
 ∃ no nc ao dc,v=.agg #[.int .u32 q,.slice no N.length nc,.slice ao D.length dc]/\ISc w (.slice no N.length nc) N/\BBSl w (.slice ao D.length dc) D
theorem TxV.below{w w':World}{v:Value}{q:Int}{N:List Int}{D:List (List Int)}(h:TxV w v q N D)(hb:Below w.heap.size w w'):TxV w' v q N D:=by
 obtain⟨no,nc,ao,dc,h1,h2,h3⟩:=h;exact⟨no,nc,ao,dc,h1,h2.below hb,h3.below hb⟩
theorem tForm_is{w:World}{v:Value}{q:Int}{N:List Int}{D:List (List Int)}(h:TxV w v q N D)(B:Bool)(hB:frmT N D=B):Calls Tryz.prog 197 #[v] w fun e w'=>e=.returned (.bool B)/\Below w.heap.size w w':=by
 obtain⟨no,nc,ao,dc,rfl,hN,hD⟩:=h;obtain⟨n,hn⟩:∃ n,n=N.length:=⟨_,rfl⟩;obtain⟨m,hm⟩:∃ m,m=D.length:=⟨_,rfl⟩;rw[Zim,<- hn,<- hm] at hB;have KN:=hid (fun W (hb:Below w.heap.size w W)=>tFormN_of (hN.below hb));have KD:=hid (fun W (hb:Below w.heap.size w W) (hl:D.length<=1000000)=>tWhole_of (hD.below hb) hl);have HL:=hid (fun(h:Zee N=true)=>(Zfh h).1);rw[<- hn] at KN HL |-
 rw[<- hm] at KD |-
 have hbx:=Zaa w (.cells #[.int .u32 q,.slice no n nc,.slice ao m dc] 183);have hnx:=heap_alloc_new w (.cells #[.int .u32 q,.slice no n nc,.slice ao m dc] 183);clear hN hD hn hm;go_enter Tryz.func197,Tryz.ntmps197;go_upto_region 1 with(fail)
 generalize w.alloc (.cells #[.int .u32 q,.slice no n nc,.slice ao m dc] 183)=u at hbx hnx |-
 have KN1:=hid (KN.out _ hbx);have KD1:=hid (KD.out _ hbx);have HBX:=hid hbx;clear KN KD hbx;have d1:u.cell? ⟨w.heap.size,1,none⟩=some (.slice no n nc):=by rw[cell_of_row _ _ _ _ _ _ hnx];rfl
 have d2:u.cell? ⟨w.heap.size,2,none⟩=some (.slice ao m dc):=by rw[cell_of_row _ _ _ _ _ _ hnx];rfl
 clear hnx;obtain⟨F,hF⟩:∃ F,Zee N=F:=⟨_,rfl⟩;obtain⟨G,hG⟩:∃ G,whole D=G:=⟨_,rfl⟩;rw[hF,hG] at hB;rw[hF] at KN1 HL;rw[hG] at KD1;have HLE:=hid (fun(h:F=true) (h2:m=n)=>show m<=1000000 by have:=HL.out h;omega);clear hF hG HL;cases F
 . rw[Bool.false_and] at hB
   subst hB;go_wp2_with (go_at_call 211;(with_reducible refine KN1.out.mono ?_);rintro e w2 ⟨rfl,rfl⟩)
   go_ret;exact⟨rfl,HBX.out⟩
 . by_cases hmn:m=n
   . have hle:=HLE.out rfl hmn
     rw[decide_eq_true hmn,Bool.true_and,Bool.true_and] at hB;subst hB;subst hmn;have KD2:=hid (KD1.out hle);clear hle HLE KD1
     go_wp2_with (first
      |(go_at_call 211;(with_reducible refine KN1.out.mono ?_);rintro e w2 ⟨rfl,rfl⟩)
      |(go_at_call 201;(with_reducible refine KD2.out.mono ?_);rintro e w3 ⟨rfl,rfl⟩))
     go_ret;exact⟨rfl,HBX.out⟩
   . rw[decide_eq_false hmn,Bool.false_and,Bool.and_false] at hB
     subst hB;have hne:¬ (m:Int)=(n:Int):=by omega
     have hne2:((m:Int)==(n:Int))=false:=by simpa using hne
     have hne3:decide ((m:Int)=(n:Int))=false:=decide_eq_false hne;clear HLE KD1 hmn;go_wp2_with (go_at_call 211;(with_reducible refine KN1.out.mono ?_);rintro e w2 ⟨rfl,rfl⟩)
     go_ret;exact⟨rfl,HBX.out⟩
theorem ob_nil9(w:World)(B:Nat):OB w B (.slice none 0 0) []:=⟨Zfb,World.ownsRow_nil w B _ _⟩
set_option maxRecDepth 100000 in
theorem bClone_of{w:World}{v:Value}{l:List Int}(hs:BSl w v l)(hl:l.length<=1000000):Calls Tryz.prog 106 #[v] w (NewB w l):=by
 have hs':=hs;rcases hs.2 with⟨rfl,rfl⟩| ⟨a,cap,rfl,hcap,hc⟩
 . clear hs hs' hl
   have he:∀ w:World,(binOp .eql 30 (.slice none 0 0) (.slice none 0 0)).run Tryz.prog w=.ok (.bool true) w:=fun _=>rfl
   go_enter Tryz.func106,Tryz.ntmps106;go_wp2;go_ret;exact⟨_,rfl,ob_nil9 _ _,Below.refl _ _⟩
 . have HS:=hid hs'
   have HL:Hid (0+l.length<=140737488355328):=hid (by omega);have H0:=hid (ob_empty w);have hb0:=Zaa w (.cells #[] 5);have HK:=hid (fun(p:Addr) (hp:p.block<w.heap.size)=>World.cell?_alloc_lt w (.cells #[] 5) p hp);have hsz:w.heap.size<=(w.alloc (.cells #[] 5)).heap.size:=by simp
   clear hs hs' hc hl;have he:∀ w:World,(binOp .eql 30 (.slice (some a) l.length cap) (.slice none 0 0)).run Tryz.prog w=.ok (.bool false) w:=fun _=>rfl
   go_enter Tryz.func106,Tryz.ntmps106
   go_wp2_with (at_builtin;refine Zah _ rfl (.tmp 5) (.tmp 6) rfl w.heap.size _ [] rfl H0.out w _ l rfl HS.out HK.out HL.out hsz ?_
                intro v3 w3 hob3 hb3 _)
   go_ret;exact⟨_,rfl,hob3,hb0.trans hb3⟩
theorem made_bb(n:Nat):madeCells (Value.slice none 0 0).cells n=Array.replicate n (Value.slice none 0 0):=by
 apply Array.ext';rw[show(Value.slice none 0 0).cells=#[Value.slice none 0 0] from rfl,toList_madeCells_one];simp
theorem Ziu(w:World){ops:Array Oper}{rest:List Oper}{o:Oper}{a:Act}{Q:Exit->Act->World->Prop}
 (hg:o.guard=none) (l c:Operand) (hop:o.op=Op.makeSlice 96 l c) (C:Int) (n:Nat) (hl:a.eval l=.int .i64 C) (hc:a.eval c=.int .i64 C) (hC:C=n) (hn:n<=1000000)
 (hK:wpList Tryz.prog ops Q rest (a.put o.dst (.slice (some ⟨w.heap.size,0,none⟩) n n)) (w.alloc (.cells (Array.replicate n (Value.slice none 0 0)) 30))):
 wpList Tryz.prog ops Q (o :: rest) a w:=by
 refine wpList_plain hg fun K hK'=>?_
 obtain⟨i,h2,h3,h4,h5⟩:=info_parts infoBy;subst hC;have hrun:=run_make (P:=Tryz.prog) w 96 30 i (.slice none 0 0) Tryz.underlying96 h2 h3 .i64 .i64 n n (by omega) (by omega) (by rw[h5];omega) (by omega);unfold Oper.wp;simp only[Int.toNat_natCast,h4,Nat.mul_one,made_bb] at hrun;simp[execOp,hop,hl,hc,hrun,Result.andThen];exact hK' _ _ hK
theorem bb_free{W:World}{g:Nat}{vs:List Value}{T:TypeId}(h:W.heap[g]? =some (.cells vs.toArray T (0,0)))(k:Nat):W.frozen? ⟨g,k,none⟩=false:=by
 simp[World.frozen?,h]
theorem bb_set{W:World}{g:Nat}{vs:List Value}{T:TypeId}(h:W.heap[g]? =some (.cells vs.toArray T (0,0)))(j:Nat)(y:Value):(W.setCell ⟨g,j,none⟩ y).heap[g]? =some (.cells (vs.set j y).toArray T (0,0)):=by
 rw[heap_setCell_same W g j _ _ _ h];simp
def RowB(w:World)(g B n:Nat)(D:List (List Int))(k:Nat):Prop:=
 ∃ vs:List Value,vs.length=n/\w.heap[g]? =some (.cells vs.toArray 30 (0,0))/\∀ j,j<k->BElt w B (vs.getD j undef) (D.getD j [])
theorem RowB.make(w:World)(B n:Nat)(D:List (List Int)):RowB (w.alloc (.cells (Array.replicate n (Value.slice none 0 0)) 30)) w.heap.size B n D 0:=
 ⟨List.replicate n (Value.slice none 0 0),List.length_replicate,by rw[heap_alloc_new];simp,fun j hj=>absurd hj (Nat.not_lt_zero _)⟩
theorem RowB.row{w:World}{g B n:Nat}{D:List (List Int)}{k:Nat}(h:RowB w g B n D k):∃ vs:List Value,vs.length=n/\w.heap[g]? =some (.cells vs.toArray 30 (0,0)):=by
 obtain⟨vs,h1,h2,_⟩:=h;exact⟨vs,h1,h2⟩
theorem RowB.below{w w':World}{g B n:Nat}{D:List (List Int)}{k:Nat}(h:RowB w g B n D k)(hb:Below w.heap.size w w'):RowB w' g B n D k:=by
 obtain⟨vs,h1,h2,h3⟩:=h;have hg:g<w.heap.size:=(Array.getElem?_eq_some_iff.1 h2).1;exact⟨vs,h1,(hb.block g hg).trans h2,fun j hj=>(h3 j hj).below hb⟩
theorem RowB.set{w:World}{g B n:Nat}{D:List (List Int)}{k:Nat}(h:RowB w g B n D k)(hk:k<n)(hB:B<=g){y:Value}(hy:BElt w B y (D.getD k [])):RowB (w.setCell ⟨g,k,none⟩ y) g B n D (k+1):=by
 obtain⟨vs,h1,h2,h3⟩:=h;have hgr:w.grownBy (w.setCell ⟨g,k,none⟩ y) (some g):=by
  have:=Wrote.setCell w g k y;exact⟨this.1,this.2.1,this.2.2.1,by rw[this.2.2.2.1];exact Nat.le_refl _,fun b hb hne=>this.2.2.2.2 b (fun e=>hne (by rw[e]))⟩
 have hrow:∀ g',some g=some g'->B<=g'/\∃ cur,w.heap[g']? =some (.cells cur 30 (0,0)):=fun g' e=>by
  obtain rfl:=Option.some.inj e;exact⟨hB,_,h2⟩
 refine⟨vs.set k y,by rw[List.length_set];exact h1,bb_set h2 k y,fun j hj=>?_⟩;by_cases e:j=k
 . subst e
   have:=hy.grown hrow hgr
   simpa [List.getD_eq_getElem?_getD,h1,hk] using this
 . have:=(h3 j (by omega)).grown hrow hgr
   rw[List.getD_eq_getElem?_getD,List.getElem?_set_ne (by omega),<- List.getD_eq_getElem?_getD];exact this
theorem RowB.done{w:World}{g B:Nat}{D:List (List Int)}(h:RowB w g B D.length D D.length)(hB:B<=g)(hm:D.length<=1000000):BBR w B (.slice (some ⟨g,0,none⟩) D.length D.length) D:=by
 obtain⟨vs,h1,h2,h3⟩:=h;refine⟨vs,h1,h3,by rw[h1,Nat.mul_one],.inr ⟨g,D.length,_,rfl,hB,h2,Nat.le_refl _,by unfold maxLen;omega,by simp[h1],?_⟩⟩;rw[List.take_of_length_le (by simp[h1])]
theorem tCopies_of{w:World}{v:Value}{D:List (List Int)}(hs:BBSl w v D)(hD:D.length<=1000000)(hl:∀ j,(D.getD j []).length<=1000000)
 (B:Nat) (hB:B<=w.heap.size):Calls Tryz.prog 199 #[v] w fun e w'=>∃ u,e=.returned u/\BBR w' B u D/\Below w.heap.size w w':=by
 obtain⟨ao,cap,rfl,_,hc⟩:=hs.open';have HDN:=hid (fun W (h:RowB W w.heap.size B D.length D D.length)=>h.done hB hD);have HBG:=hid hB;have HLN:=hid hl;obtain⟨n,hn⟩:∃ n,n=D.length:=⟨_,rfl⟩;rw[<- hn] at hc hD HDN |-
 have HC:=hid hc;have hbx:=Zaa w (.cells (Array.replicate n (Value.slice none 0 0)) 30);have hr0:=RowB.make w B n D;clear hs hc hl hn hB;go_enter Tryz.func199,Tryz.ntmps199;go_wp2_with (at_make;refine Ziu w rfl _ _ rfl (n:Int) n rfl rfl rfl hD ?_)
 generalize w.alloc (.cells (Array.replicate n (Value.slice none 0 0)) 30)=w1 at hbx hr0 |-
 have HR0:=hid hr0;have HBX:=hid hbx;obtain⟨g,hg⟩:∃ g,g=w.heap.size:=⟨_,rfl⟩;rw[<- hg] at HR0 HDN HBG |-
 have HG:=hid hg;clear hr0 hbx hg;go_loopw [11] (fun i wr=>∃ k:Nat,k<=n/\i=.int .i64 k/\Hid (RowB wr g B n D k)/\Hid (Below w.heap.size w wr)) (fun i _=>n-(intOf i).toNat)
 case atStart=>exact⟨0,by omega,rfl,HR0,HBX⟩
 case round=>
  obtain⟨k,hk,rfl,HR,HB⟩:=hrel;clear HR0 HBX;by_cases hlt:k<n
  . obtain⟨b,off,rfl,hb,hcc⟩:=HC.out (by omega)
    obtain⟨u,hcu,hu⟩:=hcc k hlt;have hck:=(HB.out.cell (p:=⟨b,off+k,none⟩) hb).trans hcu;have KC:=hid (bClone_of (hu.below HB.out) (HLN.out k));have ek:(k:Int)<(n:Int):=by omega
    obtain⟨vs,hvl,hvr⟩:=HR.out.row;have hgr:g<wr.heap.size:=(Array.getElem?_eq_some_iff.1 hvr).1;clear hcc hcu hu hb hvl hvr
    go_wp2_with (go_at_call 106;(with_reducible refine KC.out.mono ?_);rintro e w2 ⟨y,rfl,hoy,hb2⟩
                 obtain⟨yo,yc,rfl,_⟩:=hoy.bsl.shape;generalize (D.getD k []).length=yl at hoy |-
                 have hr2:=HR.out.below hb2;have HY:=hid (hoy.elt (B:=B));have HR2:=hid hr2;obtain⟨vs2,hvl2,hvr2⟩:=hr2.row;have hf2:=bb_free hvr2 k;have hc2:∃ z,w2.cell? ⟨g,k,none⟩=some z:=⟨vs2[k]'(by omega),by rw[cell_of_row _ _ _ _ _ _ hvr2];simp[hvl2,hlt]⟩;obtain⟨z,hz⟩:=hc2;have HB2:=hid (HB.out.trans (hb2.mono HB.out.size));clear hr2 hvl2 hvr2 hoy)
    go_roundw
    case rel=>exact⟨k+1,by omega,by go_num,HR2.out.set hlt HBG.out HY.out,(HB2.out.trans ((Wrote.setCell w2 g k _).below (by rw[HG.out];exact Nat.le_refl _)))⟩
    case measure=>simp[intOf];omega
  . obtain rfl:k=n:=by omega
    go_wp2;go_ret;exact⟨_,rfl,HDN.out _ HR.out,HB.out⟩
theorem bsl_lit9(w:World)(l:List Int)(hb:Byt l)(n:Nat)(hn:l.length=n)(C:Array Value)(hC:C=(l.map (Value.int .u8)).toArray)(fz:Nat × Nat):BSl (w.alloc (.cells C 5 fz)) (.slice (some ⟨w.heap.size,0,none⟩) n n) l:=by
 subst hC hn;have hh:(w.alloc (.cells (l.map (Value.int .u8)).toArray 5 fz)).heap[w.heap.size]? =some (.cells (l.map (Value.int .u8)).toArray 5 fz):=by
  show(w.heap.push _)[w.heap.size]? =_
  simp
 refine⟨hb,.inr ⟨⟨w.heap.size,0,none⟩,l.length,rfl,Nat.le_refl _,fun j hj=>⟨by simp,rfl,?_⟩⟩⟩;show(w.alloc _).cell? ⟨w.heap.size,0+j,none⟩=_
 rw[Nat.zero_add,cell_of_row _ _ _ _ _ _ hh];simp[hj,List.getD_eq_getElem?_getD]
theorem bsl_jrnl(w:World):BSl (w.alloc (.cells #[.int .u8 106,.int .u8 114,.int .u8 110,.int .u8 108] 5 (4,5))) (.slice (some ⟨w.heap.size,0,none⟩) 4 4) jrnl:=
 bsl_lit9 w jrnl byt_jrnl 4 rfl _ rfl _
theorem bsl_done(w:World):BSl (w.alloc (.cells #[.int .u8 100,.int .u8 111,.int .u8 110,.int .u8 101] 5 (4,5))) (.slice (some ⟨w.heap.size,0,none⟩) 4 4) done9:=
 bsl_lit9 w done9 byt_done 4 rfl _ rfl _
theorem below_boxF(w:World)(C:Array Value)(T:TypeId)(fz:Nat × Nat):Below w.heap.size w (w.alloc (.cells C T fz)):=Zaa w _
def headK(q:Int)(N:List Int)(k:Nat):List Int:=jrnl ++ lowB q 4 ++ lowB (N.length:Int) 2 ++ numL (N.take k)
theorem headK_full(q:Int)(N:List Int):headK q N N.length=Zaz q N:=by unfold headK Zaz;rw[List.take_length]
theorem headK_succ(q:Int)(N:List Int)(k:Nat)(hk:k<N.length):headK q N k ++ lowB (N.getD k 0) 2=headK q N (k+1):=by
 unfold headK;rw[numL_take N k hk,List.append_assoc]
theorem headK_zero(q:Int)(N:List Int):headK q N 0=jrnl ++ lowB q 4 ++ lowB (N.length:Int) 2:=by
 unfold headK;rw[List.take_zero];show _ ++ []=_
 rw[List.append_nil]
theorem headK_length(q:Int)(N:List Int)(k:Nat)(h:k<=37):(headK q N k).length<=252:=by
 unfold headK;simp only[List.length_append,Zac,Zjf,List.length_take];have:jrnl.length=4:=rfl;omega
theorem tHead_of{w:World}{v:Value}{q:Int}{N:List Int}(hs:ISl w v N)(h37:N.length<=37)(hx:∀ i,i<N.length->0<=N.getD i 0/\N.getD i 0<=767)(q0:0<=q)(q1:q<4294967296):
 Calls Tryz.prog 198 #[.int .u32 q,v] w (NewB w (Zal (Zaz q N))):=by
 obtain⟨ao,cap,rfl,hc⟩:=hs.open';have HZ:=hid (headK_zero q N);have HS:=hid (headK_succ q N);have HF:=hid (headK_full q N);have HLN:=hid (headK_length q N);have HX:=hid hx;obtain⟨n,hn⟩:∃ n,n=N.length:=⟨_,rfl⟩;rw[<- hn] at hc h37 HZ HS HF HX |-
 have HC:=hid hc;have kc:=fun(w:World) (C:Array Value) (n c:Nat)=>Lib.run_convert_bytes_const (P:=Tryz.prog) w 30 5 C n c Tryz.underlying30 Tryz.underlying5
 have hwq:IntKind.u64.wrap q=q:=IntWalk.u64_in _ (by omega);have hwn:IntKind.u64.wrap (n:Int)=(n:Int):=IntWalk.u64_in _ (by omega);have K1:=hid (Zfq (bsl_jrnl w) (by decide) q 4 4 (by omega) (by omega) rfl q0 (by omega));have K2:=hid (fun W v (hv:BSl W v (jrnl ++ lowB q 4))=>Zfq hv (by rw[List.length_append,Zac];decide) (n:Int) 2 2 (by omega) (by omega) rfl (by omega) (by omega));have hb1:=below_boxF w #[.int .u8 106,.int .u8 114,.int .u8 110,.int .u8 108] 5 (4,5);clear hs hc hx hn q1 q0;go_enter Tryz.func198,Tryz.ntmps198
 go_wp2_with (first
  |(go_at_call 177;(with_reducible refine K1.out.mono ?_);rintro e w2 ⟨v2,rfl,hob2,hb2⟩
    have HB2:=hid (hb1.trans (hb2.mono hb1.size)))
  |(go_at_call 177;(with_reducible refine(K2.out _ _ hob2.bsl).mono ?_);rintro e w3 ⟨v3,rfl,hob3,hb3⟩
    have HB3:=hid (HB2.out.trans (hb3.mono HB2.out.size))))
 have HV3:Hid (BSl w3 v3 (headK q N 0)):=hid (by rw[HZ.out];exact hob3.bsl);clear hob2 hob3 hb1 hb2 hb3 kc;go_loopw [5,22] (fun u i wr=>∃ k:Nat,k<=n/\i=.int .i64 k/\Hid (BSl wr u (headK q N k))/\Hid (Below w.heap.size w wr)) (fun _ i _=>n-(intOf i).toNat)
 case atStart=>exact⟨0,by omega,rfl,HV3,HB3⟩
 case round=>
  obtain⟨k,hk,rfl,HV,HB⟩:=hrel;clear HV3 HB3;by_cases hlt:k<n
  . obtain⟨b,off,rfl,hb,hcc⟩:=HC.out (by omega)
    have hck:=(HB.out.cell (p:=⟨b,off+k,none⟩) hb).trans (hcc k hlt);obtain⟨x0,x1⟩:=HX.out k hlt;have hs1:=HS.out k hlt;obtain⟨x,hxx⟩:∃ x,x=N.getD k 0:=⟨_,rfl⟩;rw[<- hxx] at hck x0 x1 hs1;have HS1:=hid hs1;have ek:(k:Int)<(n:Int):=by omega
    have hwx:IntKind.u64.wrap x=x:=IntWalk.u64_in _ (by omega);have KP:=hid (Zfq HV.out (by have:=HLN.out k (by omega);omega) x 2 2 (by omega) (by omega) rfl x0 (by omega));clear hcc hb hxx hs1;go_wp2_with (go_at_call 177;(with_reducible refine KP.out.mono ?_);rintro e w4 ⟨v4,rfl,hob4,hb4⟩)
    go_roundw
    case rel=>exact⟨k+1,by omega,by go_num,by show BSl _ _ _;rw[<- HS1.out];exact hob4.bsl,HB.out.trans (hb4.mono HB.out.size)⟩
    case measure=>simp[intOf];omega
  . obtain rfl:k=n:=by omega
    have KS:=hid (Zju HV.out (HLN.out k (by omega)));go_wp2_with (go_at_call 184;(with_reducible refine KS.out.mono ?_);rintro e w5 ⟨v5,rfl,hob5,hb5⟩)
    go_ret;refine⟨_,rfl,?_,HB.out.trans (hb5.mono HB.out.size)⟩;rw[<- HF.out];exact hob5.more HB.out.size
theorem tEnd_of(w:World){q:Int}(q0:0<=q)(q1:q<4294967296):Calls Tryz.prog 200 #[.int .u32 q] w (NewB w (Zal (endL q))):=by
 have kc:=fun(w:World) (C:Array Value) (n c:Nat)=>Lib.run_convert_bytes_const (P:=Tryz.prog) w 30 5 C n c Tryz.underlying30 Tryz.underlying5
 have hwq:IntKind.u64.wrap q=q:=IntWalk.u64_in _ (by omega);have K1:=hid (Zfq (bsl_done w) (by decide) q 4 4 (by omega) (by omega) rfl q0 (by omega));have K2:=hid (fun W v (hv:BSl W v (done9 ++ lowB q 4))=>Zju hv (by rw[List.length_append,Zac];decide));have hb1:=below_boxF w #[.int .u8 100,.int .u8 111,.int .u8 110,.int .u8 101] 5 (4,5);clear q1 q0;go_enter Tryz.func200,Tryz.ntmps200
 go_wp2_with (first
  |(go_at_call 177;(with_reducible refine K1.out.mono ?_);rintro e w2 ⟨v2,rfl,hob2,hb2⟩
    have HB2:=hid (hb1.trans (hb2.mono hb1.size)))
  |(go_at_call 184;(with_reducible refine(K2.out _ _ hob2.bsl).mono ?_);rintro e w3 ⟨v3,rfl,hob3,hb3⟩))
 go_ret;exact⟨_,rfl,hob3.more HB2.out.size,HB2.out.trans (hb3.mono HB2.out.size)⟩
theorem Zht(S:TypeId)(hS:Tryz.prog.underlying S=some (.slice 30)){ops:Array Oper}{o:Oper}{a:Act}{w:World}{K:Act->World->Prop}{Q:Exit->Act->World->Prop}{X:Prop}(hgd:o.guard=none)(s y:Operand)
 (ho:o.op=.call { callee:=.builtin .append,args:=#[s,y],argTypes:=#[S,S] })
 (B E:Nat) (hEB:E<=B) (v:Value) (L:List (List Int)) (hs:a.eval s=v) (hown:BB2 w B E v L) (u:Value) (M:List (List Int)) (hy:a.eval y=u) (hr:BBE w E u M)
 (hlen:L.length+M.length<=1000000) (hB:B<=w.heap.size)
 (h:∀ v' w',BB2 w' B E v' (L ++ M)->Below B w w'->w.grownBy w' v.ownBlock->K (a.put o.dst v') w'):
 if Region.wanted o (yielded ops a.tmps)=true then Oper.wp Tryz.prog o a w K Q else X:=by
 have hw:Region.wanted o (yielded ops a.tmps)=true:=by simp[Region.wanted,hgd]
 rw[if_pos hw];obtain⟨v',w',hr,h2,h3,h4⟩:=Zfp S hS w B E hEB o.type v L hown u M hr hlen hB;unfold Oper.wp execOp;simp only[ho,resolve,invoke,builtin,Sem.run_bind,Sem.run_pure,Result.andThen_ok,List.map_toArray,List.map_cons,List.map_nil,hs,hy,hr];exact h v' w' h2 h3 h4
theorem Zdt{w w':World}{row:Option Nat}(h:w.grownBy w' row)(b o:Nat)(hb:b<w.heap.size)(hne:∀ k,row=some k->k≠b):w'.cell? ⟨b,o,none⟩=w.cell? ⟨b,o,none⟩:=by
 apply World.cell?_of_block;exact h.block b hb (fun e=>hne b e.symm rfl)
theorem Zli{g d n c:Nat}(h:d<g):∀ k,(Value.slice (some ⟨g,0,none⟩) n c).ownBlock=some k->k≠d:=fun k hk=>by
 obtain rfl:g=k:=by simpa [Value.ownBlock] using hk
 omega
set_option maxHeartbeats 1000000 in
theorem tPack_own{w:World}{v:Value}{q:Int}{N:List Int}{D:List (List Int)}(h:TxV w v q N D)(hf:frmT N D=true)(q0:0<=q)(q1:q<4294967296):
 Calls Tryz.prog 162 #[v] w fun e w'=>∃ u,e=.returned (.tuple #[u,.int .i64 0])/\BB2 w' w.heap.size 0 u (Zjt q N D)/\Below w.heap.size w w':=by
 have h':=h;obtain⟨no,nc,ao,dc,rfl,hN,hD⟩:=h;obtain⟨f1,f2,f3⟩:=Zct hf;have KH:=hid (fun W (hb:Below w.heap.size w W)=>tHead_of (hN.1.below hb) f1 (fun i hi=>(f3 i hi).1) q0 q1);have KC:=hid (fun W (hb:Below w.heap.size w W)=>tCopies_of (hD.below hb) (by omega) (fun j=>by
  by_cases hj:j<N.length
  . rw[(f3 j hj).2.1];omega
  . rw[List.getD_eq_getElem?_getD,List.getElem?_eq_none (by omega)];exact Nat.zero_le _) 0 (Nat.zero_le _))
 have KE:=hid (fun W=>tEnd_of W q0 q1);have hD37:D.length<=37:=by omega
 have HL1:Hid ([Zal (Zaz q N)].length+D.length<=1000000):=hid (by simp;omega);have HL2:Hid (([Zal (Zaz q N)] ++ D).length<=100000):=hid (by simp;omega);have HPK:Hid (Zjt q N D=([Zal (Zaz q N)] ++ D) ++ [Zal (endL q)]):=hid rfl;have HLH:Hid ((Zal (Zaz q N)).length=256):=hid (Zbb _ (by rw[Zed];omega));have HLE:Hid ((Zal (endL q)).length=256):=hid (Zbb _ (by rw[Zjj];omega));obtain⟨n,hn⟩:∃ n,n=N.length:=⟨_,rfl⟩;obtain⟨m,hm⟩:∃ m,m=D.length:=⟨_,rfl⟩;rw[<- hn] at KH h' |-
 rw[<- hm] at KC h' |-
 have hbx:=Zaa w (.cells #[.int .u32 q,.slice no n nc,.slice ao m dc] 183);have hnx:=heap_alloc_new w (.cells #[.int .u32 q,.slice no n nc,.slice ao m dc] 183);have KF:=hid (tForm_is (h'.below hbx) true hf);generalize Zal (Zaz q N)=HB at KH HL1 HL2 HPK HLH;generalize Zal (endL q)=EB at KE HPK HLE;clear hN hD hn hm h' hf f1 f2 f3 hD37 q0 q1;go_enter Tryz.func162,Tryz.ntmps162;go_upto_region 1 with(fail)
 have hzu:w.heap.size<(w.alloc (.cells #[.int .u32 q,.slice no n nc,.slice ao m dc] 183)).heap.size:=by simp
 generalize w.alloc (.cells #[.int .u32 q,.slice no n nc,.slice ao m dc] 183)=u at hbx hnx KF hzu |-
 have d0:u.cell? ⟨w.heap.size,0,none⟩=some (.int .u32 q):=by rw[cell_of_row _ _ _ _ _ _ hnx];rfl
 have d1:u.cell? ⟨w.heap.size,1,none⟩=some (.slice no n nc):=by rw[cell_of_row _ _ _ _ _ _ hnx];rfl
 have d2:u.cell? ⟨w.heap.size,2,none⟩=some (.slice ao m dc):=by rw[cell_of_row _ _ _ _ _ _ hnx];rfl
 clear hnx;go_wp2_with (go_at_call 197;(with_reducible refine KF.out.mono ?_);rintro e w2 ⟨rfl,hb2⟩)
 have HB2:Hid (Below w.heap.size w w2.drew):=hid (Zab (hbx.trans (hb2.mono hbx.size)) 1);have e0:w2.drew.cell? ⟨w.heap.size,0,none⟩=some (.int .u32 q):=(hb2.cell (p:=⟨w.heap.size,0,none⟩) hzu).trans d0;have e1:w2.drew.cell? ⟨w.heap.size,1,none⟩=some (.slice no n nc):=(hb2.cell (p:=⟨w.heap.size,1,none⟩) hzu).trans d1;have e2:w2.drew.cell? ⟨w.heap.size,2,none⟩=some (.slice ao m dc):=(hb2.cell (p:=⟨w.heap.size,2,none⟩) hzu).trans d2;have hz2:w.heap.size<w2.drew.heap.size:=Nat.lt_of_lt_of_le hzu hb2.size;obtain⟨d,hd⟩:∃ d,d=w.heap.size:=⟨_,rfl⟩;rw[<- hd] at HB2 e0 e1 e2 hz2 KH KC |-
 have HD:=hid hd;clear d0 d1 d2 hbx hb2 hzu KF hd
 go_region_held3 (fun W=>W.cell? ⟨d,0,none⟩=some (.int .u32 q)/\W.cell? ⟨d,1,none⟩=some (.slice no n nc)/\W.cell? ⟨d,2,none⟩=some (.slice ao m dc)) (first|exact⟨i0,i1,i2⟩|exact⟨h0 _,h1 _,h2 _⟩|exact⟨g0,g1,g2⟩|exact⟨f0' _,f1' _,f2' _⟩|exact⟨f0,f1,f2⟩|exact⟨e0,e1,e2⟩) (first
  |(go_at_call 198;(with_reducible refine(KH.out _ HB2.out).mono ?_);rintro e w3 ⟨v3,rfl,hob3,hb3⟩
    obtain⟨ho,hc,rfl,_⟩:=hob3.bsl.shape;have HO3:=hid (hob3.elt (B:=0));rw[HLH.out] at HO3 |-
    have f0:=(hb3.cell (p:=⟨d,0,none⟩) hz2).trans e0;have f1:=(hb3.cell (p:=⟨d,1,none⟩) hz2).trans e1;have f2:=(hb3.cell (p:=⟨d,2,none⟩) hz2).trans e2;have hz3:=Nat.lt_of_lt_of_le hz2 hb3.size;have f0':=fun o=>((Zaa w3 o).cell (p:=⟨d,0,none⟩) hz3).trans f0
    have f1':=fun o=>((Zaa w3 o).cell (p:=⟨d,1,none⟩) hz3).trans f1
    have f2':=fun o=>((Zaa w3 o).cell (p:=⟨d,2,none⟩) hz3).trans f2
    have HB3:=hid (HB2.out.trans (hb3.mono (Nat.le_of_lt hz2)));clear hob3)
  |(go_at_call 199;(with_reducible refine(KC.out w3 HB3.out).mono ?_);rintro e w4 ⟨v4,rfl,hv4,hb4⟩
    have g0:=(hb4.cell (p:=⟨d,0,none⟩) hz3).trans f0;have g1:=(hb4.cell (p:=⟨d,1,none⟩) hz3).trans f1;have g2:=(hb4.cell (p:=⟨d,2,none⟩) hz3).trans f2;have hz4:=Nat.lt_of_lt_of_le hz3 hb4.size;have h0:=fun o=>((Zaa w4 o).cell (p:=⟨d,0,none⟩) hz4).trans g0
    have h1:=fun o=>((Zaa w4 o).cell (p:=⟨d,1,none⟩) hz4).trans g1
    have h2:=fun o=>((Zaa w4 o).cell (p:=⟨d,2,none⟩) hz4).trans g2
    have HO4:=hid (HO3.out.below hb4);have HV4:=hid hv4.be;have HB4:=hid (HB3.out.trans (hb4.mono (Nat.le_of_lt hz3))))
  |(go_at_call 199;(with_reducible refine(KC.out (w3.alloc _) (HB3.out.trans ((Zaa w3 _).mono (Nat.le_of_lt hz3)))).mono ?_);rintro e w4 ⟨v4,rfl,hv4,hb4⟩
    have hza:d<(w3.alloc (.cells #[.slice ho 256 hc] 30)).heap.size:=by simp;omega
    have g0:=(hb4.cell (p:=⟨d,0,none⟩) hza).trans (f0' _);have g1:=(hb4.cell (p:=⟨d,1,none⟩) hza).trans (f1' _);have g2:=(hb4.cell (p:=⟨d,2,none⟩) hza).trans (f2' _);have HO4:=hid ((bb2_one HO3.out (Nat.le_of_lt hz3)).below hb4);have HV4:=hid hv4.be;have hz4:=Nat.lt_of_lt_of_le hza hb4.size;have HB4:=hid ((HB3.out.trans ((Zaa w3 _).mono (Nat.le_of_lt hz3))).trans (hb4.mono (Nat.le_of_lt hza))))
  |(refine Zht 96 Tryz.underlying96 rfl (.tmp 13) (.tmp 16) rfl d 0 (Nat.zero_le _) _ [HB] rfl HO4.out v4 D rfl HV4.out HL1.out (Nat.le_of_lt hz4) ?_
    intro v5 w5 hv5 hb5 hg5;have i0:=(Zdt hg5 d 0 hz4 (Zli hz3)).trans g0;have i1:=(Zdt hg5 d 1 hz4 (Zli hz3)).trans g1;have i2:=(Zdt hg5 d 2 hz4 (Zli hz3)).trans g2;have HB5:=hid (HB4.out.trans hb5))
  |(refine Zht 96 Tryz.underlying96 rfl (.tmp 13) (.tmp 16) rfl d 0 (Nat.zero_le _) _ [HB] rfl (bb2_one HO4.out (Nat.le_of_lt hz4)) v4 D rfl (HV4.out.below (Zaa w4 _)) HL1.out (Nat.le_trans (Nat.le_of_lt hz4) (Zaa w4 _).size) ?_
    intro v5 w5 hv5 hb5 hg5;have i0:=(Zdt hg5 d 0 (Nat.lt_of_lt_of_le hz4 (Zaa w4 _).size) (Zli hz4)).trans (h0 _);have i1:=(Zdt hg5 d 1 (Nat.lt_of_lt_of_le hz4 (Zaa w4 _).size) (Zli hz4)).trans (h1 _);have i2:=(Zdt hg5 d 2 (Nat.lt_of_lt_of_le hz4 (Zaa w4 _).size) (Zli hz4)).trans (h2 _);have HB5:=hid ((HB4.out.trans ((Zaa w4 _).mono (Nat.le_of_lt hz4))).trans hb5)))
 all_goals (
  have HBG:=hid (by have:=HB5.out.size;rw[<- HD.out] at this;exact this);have HV5:=hid hv5;clear g0 g1 g2 i1 i2 e0 e1 e2 f0 f1 f2 hv5 hv4
  go_wp2_with (first
   |(go_at_call 200;(with_reducible refine(KE.out _).mono ?_);rintro e w6 ⟨v6,rfl,hob6,hb6⟩
     obtain⟨eo,ec,rfl,_⟩:=hob6.bsl.shape;have HO6:=hid (hob6.elt (B:=0));rw[HLE.out] at HO6 |-
     have HV6:=hid (HV5.out.below hb6);have HG6:=hid (Nat.le_trans HBG.out hb6.size);have HB6:=hid (HB5.out.trans (hb6.mono HBG.out));clear hob6)
   |(at_builtin;refine Zeh 96 Tryz.underlying96 w6 (.slice eo 256 ec) EB rfl (.tmp 18) (.tmp 22) rfl d 0 (Nat.zero_le _) v5 ([HB] ++ D) rfl HV6.out HO6.out w6.heap.size rfl rfl HL2.out HG6.out ?_;intro v7 w7 hv7 hb7))
  go_ret2;exact⟨_,rfl,by rw[HPK.out,<- HD.out];exact hv7,by rw[<- HD.out];exact HB6.out.trans hb7⟩)
end Go.Proofs.YtedabomlfcghoaaGreat
namespace Go.Proofs.YtedabomlfcghoaaGreat
set_option maxRecDepth 100000
open Go.RowKit
def inB(n:Int):Bool:=decide (0<=n/\n<=767)
def locS(l:List Int):Bool:=l.all inB
theorem Zdj(l:List Int):locS l=true ↔ ∀ j,j<l.length->inB (l.getD j 0)=true:=by
 unfold locS;rw[List.all_eq_true];constructor
 . intro h j hj
   have:l.getD j 0=l[j]:=by simp[List.getD_eq_getElem?_getD,hj]
   rw[this];exact h _ (List.getElem_mem hj)
 . intro h x hx
   obtain⟨j,hj,rfl⟩:=List.getElem_of_mem hx;have:=h j hj
   simpa [List.getD_eq_getElem?_getD,hj] using this
theorem locS_no{l:List Int}{k:Nat}(hk:k<l.length)(h:inB (l.getD k 0)=false):locS l=false:=by
 cases hl:locS l
 . rfl
 . have:=(Zdj l).1 hl k hk
   rw[h] at this;cases this
theorem getV_in(A B:List Int)(n:Int)(k:Nat)(h:0<=n)(h1:n<256 ^ k):getV (A ++ (lowB n k ++ B)) A.length k=n:=by
 unfold getV;rw[List.drop_left,List.take_left' (Zac n k),leB_lowB n k h];exact Int.emod_eq_of_lt h h1
def mapK(l:List Int):Nat->List Int
 |0=>[]
 |k+1=>mapK l k ++ lowB (l.getD k 0) 2
theorem Zds(l:List Int):∀ k,(mapK l k).length=2*k
 |0=>rfl
 |k+1=>by rw[mapK,List.length_append,Zds l k,Zac];omega
def mapS(l:List Int):List Int:=mapK l 128
def rdK(b:List Int)(k:Nat):List Int:=(List.range k).map fun j=>getV b (2*j) 2
theorem Zfz(b:List Int)(k:Nat):(rdK b k).length=k:=by simp[rdK]
def Ziv(b:List Int)(n k:Nat):List Int:=(List.range n).map fun j=>if j<k then getV b (2*j) 2 else 0
theorem Zek(b:List Int)(n k:Nat):(Ziv b n k).length=n:=by simp[Ziv]
theorem rdTill_set(b:List Int)(n k:Nat):(Ziv b n k).set k (getV b (2*k) 2)=Ziv b n (k+1):=by
 apply List.ext_getElem (by rw[List.length_set,Zek,Zek]);intro i h1 h2;simp only[Ziv,List.getElem_set,List.getElem_map,List.getElem_range];by_cases e:k=i
 . subst e;rw[if_pos rfl,if_pos (by omega)]
 . rw[if_neg e]
   by_cases h:i<k
   . rw[if_pos h,if_pos (by omega)]
   . rw[if_neg h,if_neg (by omega)]
theorem rdTill_zero(b:List Int)(n:Nat):Ziv b n 0=List.replicate n 0:=by
 rw[List.eq_replicate_iff];refine⟨Zek b n 0,fun x hx=>?_⟩;obtain⟨i,_,rfl⟩:=List.mem_map.1 hx;rw[if_neg (by omega)]
theorem rdTill_full(b:List Int)(n:Nat):Ziv b n n=rdK b n:=by
 unfold Ziv rdK;apply List.map_congr_left;intro i hi;rw[if_pos (List.mem_range.1 hi)]
theorem mapK_split(l:List Int)(i:Nat):∀ j,i<j->∃ B,mapK l j=mapK l i ++ (lowB (l.getD i 0) 2 ++ B):=by
 intro j;induction j with
 |zero=>intro h;omega
 |succ j ih=>
  intro h;by_cases e:i=j
  . subst e;exact⟨[],by rw[mapK];simp⟩
  . obtain⟨B,hB⟩:=ih (by omega)
    exact⟨B ++ lowB (l.getD j 0) 2,by rw[mapK,hB];simp⟩
theorem inB_iff{n:Int}:inB n=true ↔ 0<=n/\n<=767:=decide_eq_true_iff
theorem rd_map{l:List Int}(hl:l.length=128)(h:locS l=true):rdK (mapS l) 128=l:=by
 apply List.ext_getElem (by rw[Zfz,hl]);intro i h1 h2;have hi:i<128:=by rw[Zfz] at h1;exact h1
 obtain⟨B,hB⟩:=mapK_split l i 128 hi;have hb:=inB_iff.1 ((Zdj l).1 h i (by omega));have e:l.getD i 0=l[i]:=by simp[List.getD_eq_getElem?_getD,h2]
 simp only[rdK,List.getElem_map,List.getElem_range];rw[mapS,hB,<- Zds l i,getV_in _ _ _ _ hb.1 (by have:(256:Int) ^ 2=65536:=rfl;omega),e]
def hasM(b:List Int):Prop:=b.length=256/\locS (rdK b 128)=true
theorem has_map{l:List Int}(hl:l.length=128)(h:locS l=true):hasM (mapS l):=⟨by rw[mapS,Zds],by rw[rd_map hl h];exact h⟩
theorem getV2_le{l:List Int}(h:∀ x∈l,0<=x/\x<=255)(a:Nat):0<=getV l a 2/\getV l a 2<=65535:=by
 have:=Zcz h a 2;have e:(256:Int) ^ 2=65536:=rfl;omega
end Go.Proofs.YtedabomlfcghoaaGreat
namespace Go.Proofs.YtedabomlfcghoaaGreat
set_option maxRecDepth 100000
open Go.RowKit
theorem Zll(n m:Int)(B:Bool)(h:decide (0<=n/\n<=m)=B)(w:World):Calls Tryz.prog 139 #[.int .i64 n,.int .i64 m] w fun e w'=>e=.returned (.bool B)/\w=w':=by
 by_cases h0:0<=n
 . by_cases h1:n<=m
   . obtain rfl:B=true:=by rw[<- h];exact decide_eq_true ⟨h0,h1⟩
     clear h;go_enter Tryz.func139,Tryz.ntmps139;go_wp2;go_ret;exact⟨rfl,rfl⟩
   . obtain rfl:B=false:=by rw[<- h];exact decide_eq_false fun h=>h1 h.2
     clear h;go_enter Tryz.func139,Tryz.ntmps139;go_wp2;go_ret;exact⟨rfl,rfl⟩
 . obtain rfl:B=false:=by rw[<- h];exact decide_eq_false fun h=>h0 h.1
   clear h;go_enter Tryz.func139,Tryz.ntmps139;go_wp2;go_ret;exact⟨rfl,rfl⟩
theorem Zjg(n:Int)(B:Bool)(h:inB n=B)(w:World):Calls Tryz.prog 141 #[.int .i64 n] w fun e w'=>e=.returned (.bool B)/\w=w':=by
 have K:=hid (Zll n 767 B h);clear h;go_enter Tryz.func141,Tryz.ntmps141;go_wp2_with (go_at_call 139;refine(K.out _).mono ?_;rintro e w' ⟨rfl,rfl⟩)
 go_ret;exact⟨rfl,rfl⟩
theorem rPlace_is(n:Int)(B:Bool)(h:inB n=B)(w:World):Calls Tryz.prog 169 #[.int .i64 n] w fun e w'=>e=.returned (.bool B)/\w=w':=by
 by_cases h0:0<=n
 . by_cases h1:n<=767
   . obtain rfl:B=true:=by rw[<- h];exact decide_eq_true ⟨h0,h1⟩
     clear h;go_enter Tryz.func169,Tryz.ntmps169;go_wp2;go_ret;exact⟨rfl,rfl⟩
   . obtain rfl:B=false:=by rw[<- h];exact decide_eq_false fun h=>h1 h.2
     clear h;go_enter Tryz.func169,Tryz.ntmps169;go_wp2;go_ret;exact⟨rfl,rfl⟩
 . obtain rfl:B=false:=by rw[<- h];exact decide_eq_false fun h=>h0 h.1
   clear h;go_enter Tryz.func169,Tryz.ntmps169;go_wp2;go_ret;exact⟨rfl,rfl⟩
theorem iLocated_any{w:World}{v:Value}{l:List Int}(hs:ISl w v l)(hl:l.length<=1000000):Calls Tryz.prog 140 #[v] w fun e w'=>e=.returned (.bool (locS l))/\w=w':=by
 obtain⟨ao,cap,rfl,hc⟩:=hs.open';have hno:=fun k hk h=>locS_no (l:=l) (k:=k) hk h
 have hyes:=(Zdj l).2;obtain⟨R,hR⟩:∃ R,R=locS l:=⟨_,rfl⟩;rw[<- hR] at hno hyes |-
 obtain⟨N,hN⟩:∃ N,N=l.length:=⟨_,rfl⟩;rw[<- hN] at hc hno hyes hl |-
 have HC:=hid hc;have HNO:=hid hno;have HYE:=hid hyes;clear hc hno hyes hR hs hN;go_enter Tryz.func140,Tryz.ntmps140;go_wp2
 go_loop [7] (fun i=>∃ k:Nat,k<=N/\i=.int .i64 k/\Hid (∀ j,j<k->inB (l.getD j 0)=true)) (fun i=>N-(intOf i).toNat)
 case atStart=>exact⟨0,by omega,rfl,fun j hj=>absurd hj (Nat.not_lt_zero _)⟩
 case round=>
  obtain⟨k,hk,rfl,HK⟩:=hrel;by_cases hlt:k<N
  . obtain⟨b,off,rfl,_,hcc⟩:=HC.out (by omega)
    have hck:=hcc k hlt;have hn1:=HNO.out k hlt;obtain⟨x,hx⟩:∃ x,x=l.getD k 0:=⟨_,rfl⟩;rw[<- hx] at hck hn1;have HX:=hid hx;have HN1:=hid hn1;have ek:(k:Int)<(N:Int):=by omega
    clear hx hcc hn1;cases hf:inB x
    . have HF:=hid hf
      have hR:=HN1.out hf;subst hR;clear hf;go_wp2_with (go_at_call 141;refine(Zjg x _ HF.out _).mono ?_;rintro e w' ⟨rfl,rfl⟩)
      go_ret;exact⟨rfl,rfl⟩
    . have HF:=hid hf
      clear hf;go_wp2_with (go_at_call 141;refine(Zjg x _ HF.out _).mono ?_;rintro e w' ⟨rfl,rfl⟩)
      go_round
      case rel=>
       refine⟨k+1,by omega,by go_num,fun j hj=>?_⟩;by_cases e:j=k
       . subst e;rw[<- HX.out];exact HF.out
       . exact HK.out j (by omega)
      case measure=>simp[intOf];omega
  . obtain rfl:k=N:=by omega
    have hR:=HYE.out HK.out;subst hR;go_wp2;go_ret;exact⟨rfl,rfl⟩
theorem Zgy{w:World}{v:Value}{l:List Int}(hs:ISl w v l)(hl:l.length<=1000000)(B:Bool)(h:locS l=B):Calls Tryz.prog 140 #[v] w fun e w'=>e=.returned (.bool B)/\w=w':=by
 rw[<- h];exact iLocated_any hs hl
theorem iPlace_no(n:Int)(h:n<1\/47<n)(w:World):Calls Tryz.prog 62 #[.int .i64 n] w fun e w'=>e=.returned (.tuple #[.int .i64 (-1),.int .i64 (-1)])/\w=w':=by
 by_cases h0:n<1
 . clear h
   go_enter Tryz.func62,Tryz.ntmps62;go_wp2;go_ret2;exact⟨rfl,rfl⟩
 . have h1:48<=n:=by omega
   clear h;go_enter Tryz.func62,Tryz.ntmps62;go_wp2;go_ret2;exact⟨rfl,rfl⟩
theorem iPlace_yes(n:Int)(h0:1<=n)(h1:n<=47)(w:World):Calls Tryz.prog 62 #[.int .i64 n] w fun e w'=>e=.returned (.tuple #[.int .i64 (n / 8),.int .i64 (n%8)])/\w=w':=by
 go_enter Tryz.func62,Tryz.ntmps62;go_wp2;go_ret2;exact⟨rfl,rfl⟩
theorem pGetW{w:World}{v:Value}{c:List Int}(hs:BSl w v c)(hc:c.length<=100000)(a k:Nat)(A K:Int)(hA:A=a)(hK:K=k)(hk1:1<=k)(hk:k<=8)(ha:a+k<=c.length)(y:Int)(hy:y=getV c a k):
 Calls Tryz.prog 144 #[v,.int .i64 A,.int .i64 K] w fun e w'=>e=.returned (.tuple #[.int .u64 y,.bool true])/\w=w':=by
 subst hA hK;have hg:=pGet_any hs (by omega) (a:Int) k (by omega) (by omega);have hn:getN c (a:Int) k=y:=by unfold getN;rw[if_pos (by omega),hy];rfl
 have hb:gotB c (a:Int) k=true:=decide_eq_true (by omega);rw[hn,hb] at hg;exact hg
theorem ob_made(w:World)(M:Nat)(hM:M<=1000):OB (w.alloc (.cells (Array.replicate M (.int .u8 0)) 5)) w.heap.size (.slice (some ⟨w.heap.size,0,none⟩) 0 M) []:=
 OB.of_heap (w:=w.alloc (.cells (Array.replicate M (.int .u8 0)) 5)) (B:=w.heap.size) (g:=w.heap.size) (cap:=M) (l:=[]) (rest:=List.replicate M (.int .u8 0)) Zfb (Nat.le_refl _) (by rw[heap_alloc_new];simp) (by simp) (by unfold maxLen;omega)
end Go.Proofs.YtedabomlfcghoaaGreat
