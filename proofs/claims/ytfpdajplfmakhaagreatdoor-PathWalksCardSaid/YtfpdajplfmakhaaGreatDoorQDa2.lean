/- What the law rests on. -/
import Derived.Test.YtfpdajplfmakhaaGreatDoorQD16
import Derived.Test.YtfpdajplfmakhaaGreatDoorQDa1
open Go.Value renaming int->J,slice->X,pointer->F,tuple->C,bool->N,agg->p
open Go.IntKind renaming i64->Y
open Go.Proofs.Tryz renaming prog->G
open Option renaming none->H,some->Z
open Go renaming World->E,Value->M,Calls->U,strOfNums->o
open Go.Ending renaming returned->D
open Go.Obj renaming cells->O
open Go.RowKit renaming Below->K
open Bool renaming false->I,true->P
open Or renaming inl->u,inr->z
open Go.Proofs.Tryz
namespace Go.Proofs.YtfpdajplfmakhaaGreatDoor
set_option linter.defProp false
set_option maxHeartbeats 12000000
set_option linter.unusedVariables false
set_option maxRecDepth 100000
section
open Go.RowKit BM
def XE{w:E}{v:M}{l:List Hg}(z:ESl w v l)(O:l.length<=1000000)(s:ByteArray):U G 32 #[v,.string s] w fun e w'=>e=D (J Y (Gj l s))/\w=w':=by
 obtain⟨K,L,rfl,q⟩:=z.open';obtain⟨n,o⟩:=nm l.length;have r:Hid (∀ (k:Nat),k<n->∃ b a i t,K=Z ⟨b,a,H⟩/\w.cell? ⟨b,a+k*2,H⟩=Z (J Y i)/\w.cell? ⟨b,a+k*2+1,H⟩=Z (.string t)/\t=(l.getD k default).2):=wN fun k N=>by
  obtain⟨b,a,e,c,m⟩:=q Aa;obtain⟨C,F⟩:=m k Aa;exact⟨b,a,_,_,e,C,F,rfl⟩
 have u:=wN o;rw[<- o] at O |-
 clear z q o;go_enter func32,ntmps32;go_wp2;go_loopw [5,8] (fun _ p wr=>w=wr/\∃ k:Nat,k<=n/\p=J Y k/\Hid (∀ j,j<k->UR (l.getD j default).2 s=I)) (fun _ p _=>n-(intOf p).toNat)
 case atStart=>exact⟨rfl,0,A7 _,rfl,wN fun j d=>absurd d (Bm j)⟩
 case round=>
  obtain⟨rfl,k,N,rfl,f⟩:=hrel;by_cases c:k<n
  . have R:(k:Int)<(n:Int):=by omega
    obtain⟨b,a,i,t,rfl,P,Q,A⟩:=r.out k c;have x:=wN A;clear A r;cases y:t.toList==s.toList
    . have B:Hid (UR t s=I):=wN y
      go_wp2;go_roundw
      case rel=>exact⟨by trivial,k+1,Aa,by go_num,wN fun j d=>(by
       rcases Nat.lt_or_eq_of_le (Nat.le_of_lt_succ d) with h|h
       . exact f.out j h
       . rw[h,<- x.out];exact B.out)⟩
      case measure=>simp[intOf];omega
    . have g:Hid (Gj l s=(k:Int)):=wN (TP (by have:=u.out;omega) (by rw[<- x.out];exact y) f.out)
      go_wp2;go_ret;exact⟨by rw[g.out];rfl,rfl⟩
  . obtain rfl:k=n:=by omega
    have g:Hid (Gj l s= -1):=wN (NG fun j d=>f.out j (by have:=u.out;omega));go_wp2;go_ret;exact⟨by rw[g.out];rfl,rfl⟩
section
variable {T:Fa}{d:Int}{k:Nat}{x:Nd}
def mx{j:Nat}(b:T k=Z x)(a:x.kd=2)(c:j<x.L.length)(he:(x.L.getD j default).1=d):Ra T d k=P:=by
 unfold Ra;rw[b];show(decide (x.kd=2) && x.L.any fun e=>e.1==d)=P
 rw[AK a,AS,List.any_eq_true];exact⟨x.L.getD j default,by rw[F7 _ c];exact Br _,by rw[he];exact beq_self_eq_true d⟩
def jd(f:T k=Z x)(h:x.kd=2->∀ j,j<x.L.length->(x.L.getD j default).1≠d):Ra T d k=I:=by
 unfold Ra;rw[f];show(decide (x.kd=2) && x.L.any fun e=>e.1==d)=I
 by_cases a:x.kd=2
 . rw[AK a,AS,List.any_eq_false]
   intro e he c;obtain⟨j,b,rfl⟩:=CC he;have:=h a j b;rw[F7 _ b] at this;exact this (by simpa using c)
 . rw[AM a,Bool.false_and]
end
def ji{w:E}{B X:Nat}{T:Fa}{A Q:Nat->Nat}(h:TreH w B X T A Q)(hL:∀ i x,i<48->T i=Z x->x.L.length<=1000000)(d:Int):U G 31 #[F (Z ⟨X,0,H⟩),J Y d] w fun e w'=>e=D (J Y (Tk T d:Nat))/\w=w':=by
 have HC:=wN (fun i (o:i<48)=>h.cell o);have HD:=wN (fun i x (o:i<48) (e:T i=Z x)=>h.nd i x o e);have HL:=wN hL;clear h hL;go_enter func31,ntmps31;go_wp2;go_loopw [7] (fun i wr=>w=wr/\∃ k:Nat,k<=48/\i=J Y k/\Hid (∀ j,j<k->Ra T d j=I)) (fun i _=>48-(intOf i).toNat)
 case atStart=>exact⟨rfl,0,Aa,rfl,wN fun j l=>absurd l (Bm j)⟩
 case round=>
  obtain⟨rfl,k,hk,rfl,p⟩:=hrel;by_cases c:k<48
  . have e1:(k:Int)<48:=by omega
    have c1:=HC.out k c;cases g:T k
    . rw[Ma g] at c1
      have a:Hid (∀ j,j<k+1->Ra T d j=I):=wN fun j l=>by
       rcases Nat.lt_or_eq_of_le (Nat.le_of_lt_succ l) with h|h
       . exact p.out j h
       . rw[h];unfold Ra;rw[g]
      clear g;go_wp2;go_roundw
      case rel=>exact⟨by trivial,k+1,Aa,by go_num,a⟩
      case measure=>simp[intOf];omega
    . next x=>
      rw[Gn g] at c1;have u:=HD.out k x c g;have c2:=u.c0;obtain⟨v,c3,R⟩:=u.c4;obtain⟨ao,a0,rfl,z⟩:=R.sl.open';have hl:=HL.out k x c g;obtain⟨n,y⟩:=nm x.L.length;have W:Hid (∀ (j:Nat),j<n->∃ b f i,ao=Z ⟨b,f,H⟩/\w.cell? ⟨b,f+j*2,H⟩=Z (J Y i)/\i=(x.L.getD j default).1):=wN fun j l=>by
       obtain⟨b,f,e,c,N⟩:=z Aa;exact⟨b,f,_,e,(N j Aa).1,rfl⟩
      have r:Hid (n=x.L.length/\T k=Z x):=wN ⟨y,g⟩;have s:Hid (Ra T d k=P->Tk T d=k):=wN fun h=>kg c h p.out
      rw[<- y] at c3 hl;cases M:((x.kd:Int)==2)
      . have a:Hid (∀ j,j<k+1->Ra T d j=I):=wN fun j l=>by
         rcases Nat.lt_or_eq_of_le (Nat.le_of_lt_succ l) with h|h
         . exact p.out j h
         . rw[h];exact jd g fun h2=>by rw[h2] at M;cases M
        clear g u R z y r s;go_wp2;go_roundw
        case rel=>exact⟨by trivial,k+1,Aa,by go_num,a⟩
        case measure=>simp[intOf];omega
      . have H2:Hid (x.kd=2):=wN (by rw[beq_iff_eq] at M;omega)
        clear g u R z y;go_wp2;go_loopw [39] (fun i wr=>w=wr/\∃ j:Nat,j<=n/\i=J Y j/\Hid (∀ m,m<j->(x.L.getD m default).1≠d)) (fun i _=>n-(intOf i).toNat)
        case atStart=>exact⟨rfl,0,Aa,rfl,wN fun m t=>absurd t (Bm m)⟩
        case round=>
         obtain⟨rfl,j,l,rfl,S⟩:=hrel;by_cases O:j<n
         . have e4:(j:Int)<(n:Int):=by omega
           obtain⟨b,f,i,rfl,d1,o⟩:=W.out j O;have V:=wN o;clear o W;cases e5:(i==d)
           . have C:Hid (∀ m,m<j+1->(x.L.getD m default).1≠d):=wN fun m t=>by
              rcases Nat.lt_or_eq_of_le (Nat.le_of_lt_succ t) with h|h
              . exact S.out m h
              . rw[h,<- V.out];simpa using e5
             go_wp2;go_roundw
             case rel=>exact⟨by trivial,j+1,Aa,by go_num,C⟩
             case measure=>simp[intOf];omega
           . have K:Hid (Tk T d=k):=wN (s.out (mx (j:=j) r.out.2 H2.out (by have:=r.out.1;omega) (by rw[<- V.out];simpa using e5)))
             go_wp2;go_ret;exact⟨by rw[K.out];rfl,rfl⟩
         . obtain rfl:j=n:=by omega
           have a:Hid (∀ m,m<k+1->Ra T d m=I):=wN fun m t=>by
            rcases Nat.lt_or_eq_of_le (Nat.le_of_lt_succ t) with h|h
            . exact p.out m h
            . rw[h];exact jd r.out.2 fun _ q hq=>S.out q (by have:=r.out.1;omega)
           go_wp2;go_roundw
           case rel=>exact⟨by trivial,k+1,Aa,by go_num,a⟩
           case measure=>simp[intOf];omega
  . obtain rfl:k=48:=by omega
    have K:Hid (Tk T d=1):=wN (Vt p.out);go_wp2;go_ret;exact⟨by rw[K.out];rfl,rfl⟩
def U6(s:ByteArray)(w:E):U G 8 #[.string s] w fun e w'=>(s.data.toList.head? =Z 47/\Yl s w e w')\/(s.data.toList.head? ≠Z 47/\e=D (C #[X H 0 0,J Y 9])/\w=w'):=by
 by_cases h:0<s.size
 . have k:s.toList.isEmpty=I:=by
    rw[Cg];cases c:s.data.toList with
    |nil=>have:=p_nil.1 c;omega
    |cons _ _=>rfl
   have l:(0:Int)<(s.size:Int):=Aa;cases d:((s[0].toNat:Int)==47)
   . have b:Hid (s.data.toList.head? ≠Z 47):=wN (by rw[Kw h];intro e;rw[b47.2 (Bc e)] at d;cases d)
     go_enter func8,ntmps8;go_wp2;go_ret2;exact z ⟨b.out,rfl,rfl⟩
   . have g:Hid (s.data.toList.head? =Z 47):=wN (by rw[Kw h,b47.1 d])
     have i:=wN (LX s w);go_enter func8,ntmps8;go_wp2_with (go_at_call 18;(with_reducible refine i.out.mono ?_);rintro e m ⟨(⟨f,v,rfl,j⟩| ⟨f,rfl⟩),a⟩)
     . go_ret2
       exact u ⟨g.out,u ⟨f,v,rfl,j⟩,a⟩
     . go_ret2
       exact u ⟨g.out,z ⟨f,rfl⟩,a⟩
 . have k:s.toList.isEmpty=P:=by rw[Cg,p_nil.2 Aa];rfl
   have b:Hid (s.data.toList.head? ≠Z 47):=wN (by rw[RX Aa];intro e;cases e);go_enter func8,ntmps8;go_wp2;go_ret2;exact z ⟨b.out,rfl,rfl⟩
section
variable {w:E}{B bn bp:Nat}{x:Nd}
def Ue(h:NodeT w B bn bp x)(i:x.kd≠2)(hb:Fv x.tg)(g:x.tg.length<=200):U G 33 #[F (Z ⟨bn,0,H⟩)] w fun e w'=>e=D (.string (o x.tg))/\K w.heap.size w w':=by
 obtain⟨l,_,f⟩:=h.toB i hb g;have j:=f.c2;have KR:Hid (U G 62 #[F (Z ⟨bn,0,H⟩),J Y 0,J Y (x.tg.length:Nat)] w fun e w'=>∃ v,e=D (C #[v,J Y 0])/\BSl w' v x.tg/\K w.heap.size w w'):=wN ((YT f (a:=0) (m:=x.tg.length) Aa Aa).mono fun e w' ⟨v,he,c,b⟩=>⟨v,he,by
  have:=c.bsl;rw[show min x.tg.length (x.tg.length-0)=x.tg.length from Aa,qb hb] at this;exact this,b⟩)
 have d:Hid (∀ W v,BSl W v x.tg->(convert 77 9 v).run G W=.ok (.string (o x.tg)) W):=wN fun W v c=>Hw c
 generalize o x.tg=S at d |-
 generalize x.tg.length=n at j KR;clear h i hb g f;go_enter func33,ntmps33;go_wp2_with (go_at_call 62;(with_reducible refine KR.out.mono ?_);rintro e p ⟨v,rfl,c,b⟩;have k:=d.out _ _ c;clear c)
 go_ret;exact⟨rfl,b⟩
end
def Dj:(G.info? 38).map (·.size)=Z 3:=Ac
def bQ:M->Nat
 |.slice _ n _=>n
 |_=>0
def qY{y:Nd}(h:1<=y.tg.length):0<(o y.tg).size:=by rw[strOfNums_size];exact h
def XZ(s:ByteArray)(w:E)(T:Fa)(fo:Bool):
 (Nf T s fo=IE T fo 1 0 (BX s)/\(BX s).length<=20/\U G 8 #[.string s] w fun e w'=>∃ v,e=D (C #[v,J Y 0])/\TR w' w.heap.size v (BX s)/\K w.heap.size w w')\/
 (∃ d,(d=10\/d=9)/\Nf T s fo=M0 d/\U G 8 #[.string s] w fun e w'=>e=D (C #[X H 0 0,J Y d])/\K w.heap.size w w'):=by
 have h:=U6 s w;unfold Nf;by_cases a:s.data.toList.head? =Z 47
 . rw[AG a]
   by_cases b:OkP s
   . rw[AG b]
     refine u ⟨rfl,b.ct,h.mono ?_⟩;rintro e w' (⟨_,⟨_,v,he,i⟩| ⟨c,_⟩,f⟩| ⟨c,_⟩)
     . exact⟨v,he,i,f⟩
     . exact absurd b c
     . exact absurd a c
   . rw[AJ b]
     refine z ⟨10,u rfl,rfl,h.mono ?_⟩;rintro e w' (⟨_,⟨g,_⟩| ⟨_,he⟩,f⟩| ⟨c,_⟩)
     . exact absurd g b
     . exact⟨he,f⟩
     . exact absurd a c
 . rw[AJ a]
   refine z ⟨9,z rfl,rfl,h.mono ?_⟩;rintro e w' (⟨g,_⟩| ⟨_,he,rfl⟩)
   . exact absurd g a
   . exact⟨he,AP _ _⟩
structure WlI (W1:E) (T:Fa) (fo:Bool) (R:gD) (v:M) (l:List ByteArray) (a f:Nat) (wr:E):Prop where
 tl:TSl wr v l
 len:l.length<=20
 f4:f<=4
 dir:∃ x,T a=Z x/\x.kd=2
 res:IE T fo a f l=R
 be:K W1.heap.size W1 wr
def XA{w:E}{B bt:Nat}{T:Fa}{A Q:Nat->Nat}(h:TreH w B bt T A Q)(hT:OkT T)(s:ByteArray)(fo:Bool):U G 12 #[F (Z ⟨bt,0,H⟩),.string s,N fo] w fun e w'=>e=D (rB (Nf T s fo))/\K w.heap.size w w':=by
 have c5:=AF w (O #[J Y 0,.string ⟨#[]⟩,J Y 0] 38);have Iz:=AC w (O #[J Y 0,.string ⟨#[]⟩,J Y 0] 38);obtain⟨W1,e2⟩:=nm (w.alloc (O #[J Y 0,.string ⟨#[]⟩,J Y 0] 38));rw[<- e2] at c5 Iz;have H1:Hid (w.alloc (O #[J Y 0,.string ⟨#[]⟩,J Y 0] 38)=W1):=wN e2.symm;have HH:Hid (∀ V,K W1.heap.size W1 V->V.heap[w.heap.size]? =Z (O #[J Y 0,.string ⟨#[]⟩,J Y 0] 38 (0,0))):=wN fun V hV=>(hV.block _ (Au.1 Iz).1).trans Iz
 have a5:Hid (∀ V V',K W1.heap.size W1 V->Wrote V V' w.heap.size->K w.heap.size w V'):=wN fun V V' hV hw=>(c5.trans (hV.mono c5.size)).trans (hw.below (AE _))
 have b7:Hid (∀ V,K W1.heap.size W1 V->TreH V B bt T A Q):=wN fun V hV=>(h.low c5).low hV
 have a0:=wN hT;obtain⟨R,hR⟩:=nm (Nf T s fo);have KP:=XZ s W1 T fo;rw[<- hR] at KP |-
 clear e2 c5 Iz h hT hR;rcases KP with⟨c3,vV,KP⟩| ⟨er,g5,c3,KP⟩
 . have b8:=wN KP
   have H0:Hid (∀ w2 v,TR w2 W1.heap.size v (BX s)->K W1.heap.size W1 w2->WlI W1 T fo R v (BX s) 1 0 w2):=wN fun w2 v hv hb=>⟨hv.sl,vV,Af,a0.out.root,c3.symm,hb⟩
   clear KP c3;obtain⟨l0,qn⟩:=nm (BX s);rw[<- qn] at b8 H0 vV;clear qn;go_enter func12,ntmps12;go_wp2_with (go_at_call 8;rw[H1.out];(with_reducible refine b8.out.mono ?_);rintro e w2 ⟨v0,rfl,e7,c6⟩)
   have e9:=wN (H0.out _ _ e7 c6);have f1:Hid (∃ ao j,v0=X ao l0.length j):=wN (by obtain⟨ao,j,e,_⟩:=e7.sl;exact⟨ao,j,e⟩);clear e7 c6 H0 b8;go_loopw [8,10,11] (fun v f9 fl wr=>∃ (ao:Option Addr) (n j a f:Nat) (l:List ByteArray),v=X ao n j/\n=l.length/\f9=J Y a/\fl=J Y f/\Hid (WlI W1 T fo R v l a f wr)) (fun v _ fl _=>(5-(intOf fl).toNat)*21+bQ v)
   case atStart=>
    obtain⟨ao,j,rfl⟩:=f1.out;exact⟨ao,_,j,1,0,l0,rfl,rfl,rfl,rfl,e9⟩
   case round=>
    obtain⟨ao,n,j,a,f,l,rfl,hn,rfl,rfl,HI⟩:=hrel;clear e9 f1;have c:=HI.out.be;have qI:=HH.out wr c;have e4:=HI.out.f4;cases l with
    |nil=>
     obtain rfl:n=0:=hn;have HR:Hid ((((a:Int),⟨#[]⟩,(a:Int)),0)=R):=wN (by rw[<- HI.out.res,Tc]);go_wp2_with (with_reducible refine Bw rfl 38 Dj (.tmp 6) (.tmp 139) rfl w.heap.size rfl _ _ _ _ _ _ rfl rfl rfl rfl _ qI ?_;intro w5 g Du)
     exact A9 (BH rfl underlying38 Dj _ _ w.heap.size _ _ _ _ _ rfl Du rfl) rfl ⟨by rw[<- HR.out];rfl,a5.out _ _ c g⟩
    |cons s1 r=>
     have FV:n=r.length+1:=hn;have h6:r.length+1<=20:=HI.out.len;obtain⟨i2,h2,f6,_,f3⟩:=HI.out.tl;obtain rfl:=(Be f6).1;obtain⟨b,b2,rfl,i4,f5⟩:=f3 Ai;have c0:=f5 0 Ai;rw[Nat.add_zero] at c0;have c0:wr.cell? ⟨b,b2,H⟩=Z (.string s1):=c0;have t:Hid (TSl wr (.slice (if j=1 then Z ⟨b,b2,H⟩ else Z ⟨b,b2+1,H⟩) (n-1) (j-1)) r):=wN (HI.out.tl.tail Ai);clear f3 f5 f6 hn;obtain⟨m,hm⟩:=nm r.length;have L0:n=m+1:=Aa;subst L0;clear FV;have i6:(0:Int)<(m:Int)+1:=Aa;have HM:Hid (m=r.length):=wN hm;rw[Nat.add_sub_cancel] at t;have g9:=fun W=>Vp W b b2 m j
     obtain⟨d0,vW⟩:=nm ((if j=1 then Z (⟨b,b2,H⟩:Addr) else Z ⟨b,b2+1,H⟩));rw[<- vW] at t g9;clear vW;obtain⟨x,ZP,W7⟩:=HI.out.dir;have mj:=HI.out.res;have h5:(a:Int)<48:=(by have:=(a0.out.hi _ _ ZP).2;omega);have g3:=(b7.out wr c).cell (a0.out.hi _ _ ZP).2;rw[Gn ZP] at g3;have i1:Hid (T a=Z x/\x.kd=2):=wN ⟨ZP,W7⟩;cases d1:(s1.toList==[46])
     . cases d2:(s1.toList==[46,46])
       . have c2:=(b7.out wr c).nd a x (a0.out.hi _ _ ZP).2 ZP
         obtain⟨v4,c4,b1⟩:=c2.c4;have KF:=wN (XE b1.sl (by have:=a0.out.len _ _ ZP;omega) s1);by_cases hi:DM x.L s1<x.L.length
         . obtain⟨k,hk⟩:=nm (DM x.L s1)
           have e1:Gj x.L s1=(k:Int):=(by unfold Gj;rw[AG hi,hk]);rw[e1] at KF;have d4:k<x.L.length:=(by rw[hk];exact hi);obtain⟨nn,y,d6,Uv⟩:=a0.out.ent _ _ ZP (x.L.getD k default) (by rw[F7 _ d4];exact Br _);have a8:=TL (fo:=fo) (f:=f) (r:=r) d1 d2 ZP hi (n:=nn) (by rw[<- hk];exact d6) Uv;rw[mj] at a8;obtain⟨i3,h3,rfl,Gs⟩:=b1.sl.open';obtain⟨b4,i0,rfl,_,e3⟩:=Gs Aa;have ce:=(e3 k d4).1;rw[d6] at ce;have d3:=(b7.out wr c).nd nn y (a0.out.hi _ _ Uv).2 Uv;have g0:=(b7.out wr c).cell (a0.out.hi _ _ Uv).2;rw[Gn Uv] at g0;have a4:=d3.c0;have gy:(nn:Int)<48:=(by have:=(a0.out.hi _ _ Uv).2;omega);have i5:¬ (k:Int)<0:=Aa;have g8:(k:Int)<(x.L.length:Int):=Aa;obtain⟨ln,e6⟩:=nm x.L.length;rw[<- e6] at g8 c4 KF;have e0:Hid (r=[] ↔ m=0):=wN ⟨fun h=>by rw[hm,h];rfl,fun h=>A3 Aa⟩;by_cases a3:y.kd=3/\(r≠[]\/fo=P)
           . have hy:=wN (a8.1 a3)
             replace a4:wr.cell? ⟨A nn,0,H⟩=Z (J Y 3):=by rw[a4,a3.1];rfl
             have b5:(0:Int)<(m:Int)\/(m=0/\fo=P):=by
              rcases a3.2 with h|h
              . have:m≠0:=fun e=>h (e0.out.2 e)
                exact u Aa
              . by_cases h0:m=0
                . exact z ⟨h0,h⟩
                . exact u Aa
             have d5:=a0.out.link _ _ Uv;obtain⟨S,hS⟩:=nm (o y.tg);have KT:=wN (Ue d3 (by rw[a3.1];decide) d5.2.1 d5.1);have g2:0<S.size:=(by rw[hS];exact qY (d5.2.2.1 a3.1));rw[<- hS] at hy KT;clear a8 c2 ZP hi e1 mj b1 Gs e3 d6 d3 Uv d5 a3 hS hk e6 d4 hm;by_cases h4:4<f+1
             . have HR:=wN (hy.out.1 h4)
               have g4:(4:Int)<(f:Int)+1:=Aa;clear hy KT t HI;rcases b5 with Xc| ⟨rfl,rfl⟩
               all_goals
                go_wp2_with (first|(go_at_call 32;(with_reducible refine Ad KF.out ?_);rintro w3 rfl)|(with_reducible refine Bw rfl 38 Dj (.tmp 6) (.tmp 99) rfl w.heap.size rfl _ _ _ _ _ _ rfl rfl rfl rfl _ qI ?_;intro w5 g Du))
                exact A9 (BH rfl underlying38 Dj _ _ w.heap.size _ _ _ _ _ rfl Du rfl) rfl ⟨by rw[HR.out];rfl,a5.out _ _ c g⟩
             . have d7:=wN (hy.out.2 h4)
               have g4:¬ (4:Int)<(f:Int)+1:=Aa;have e8:Hid (f<=3):=wN Aa;clear hy;by_cases ho:OkP S
               . have a7:=d7.out.2 ho
                 have b9:Hid (∀ V,U G 18 #[.string S] V fun e w'=>∃ v,e=D (C #[v,J Y 0])/\TR w' V.heap.size v (BX S)/\K V.heap.size V w'):=wN fun V=>(LX S V).mono fun e w' ⟨h1,hb⟩=>by
                  rcases h1 with⟨_,v,he,hv⟩| ⟨hn,_⟩
                  . exact⟨v,he,hv,hb⟩
                  . exact absurd ho hn
                 have Kk:=ho.ct;have vO:(0:Int)<(S.size:Int):=Aa;obtain⟨q,hq⟩:=nm ((BX S ++ r).length);have aW:=HM.out;have f0:=wN hq;have HQ:Hid (∀ (W:E) (v:M) (B:Nat),TR W B v (BX S ++ r)->∃ ao j,v=X ao q j):=wN fun W v B h=>by
                  obtain⟨ao,j,e,_⟩:=h.sl;exact⟨ao,j,by rw[e,hq]⟩
                 have b0:Hid (([]:List ByteArray).length+(BX S).length<=1000000/\(BX S).length+r.length<=1000000):=wN ⟨by rw[List.length_nil];omega,Aa⟩;have b6:Hid (∀ W,K wr.heap.size wr W->TSl W (X d0 m (j-1)) r):=wN fun W hW=>t.out.below hW
                 have vX:=Kw g2;rw[<- hq] at a7;have f7:=wN HI.out.dir;clear d7 t HI ho Kk aW;by_cases c1:20<q
                 . rw[AG c1] at a7
                   have HR:=wN a7;have g1:(20:Int)<(q:Int):=Aa;clear a7 vX hq c1;cases pA:((S[0].toNat:Int)==47)
                   all_goals
                    rcases b5 with Xc| ⟨rfl,rfl⟩
                    all_goals
                     go_wp2_with (first|(go_at_call 32;(with_reducible refine Ad KF.out ?_);rintro w3 rfl)|(go_at_call 33;(with_reducible refine Ad KT.out ?_);rintro w6 a6)|(go_at_call 18;(with_reducible refine(b9.out _).mono ?_);rintro e w7 ⟨v7,rfl,c9,a9⟩;have d:=a6.trans (a9.mono a6.size))|(at_builtin;refine C9 _ rfl (.tmp 114) (.tmp 115) rfl w7.heap.size _ _ [] (BX S) rfl (Px w7) b0.out.1 rfl (c9.sl.below (AF w7 _)) (AF w7 _).size ?_;intro v8 w8 h8 c7;have p:=(AF w7 (O #[] 9)).trans c7)|(at_builtin;refine C9 _ rfl (.tmp 116) (.tmp 117) rfl w7.heap.size _ _ (BX S) r rfl h8 b0.out.2 rfl (b6.out _ (d.trans (p.mono d.size))) p.size ?_;intro v9 w9 h9 c8;obtain⟨f2,d8,rfl⟩:=HQ.out _ _ _ h9;have WT:=c.trans ((d.trans ((p.trans c8).mono d.size)).mono c.size);have e5:=HH.out _ WT)|(with_reducible refine Bw rfl 38 Dj (.tmp 6) (.tmp 122) rfl w.heap.size rfl _ _ _ _ _ _ rfl rfl rfl rfl _ e5 ?_;intro w5 g Du))
                     exact A9 (BH rfl underlying38 Dj _ _ w.heap.size _ _ _ _ _ rfl Du rfl) rfl ⟨by rw[HR.out];rfl,a5.out _ _ WT g⟩
                 . rw[AJ c1] at a7
                   have g1:¬ (20:Int)<(q:Int):=Aa;cases pA:((S[0].toNat:Int)==47)
                   . rw[AJ (by rw[vX];intro e;rw[b47.2 (Bc e)] at pA;cases pA)] at a7
                     have d9:Hid (∀ (W:E) (v:M) (B:Nat),TR W B v (BX S ++ r)->K W1.heap.size W1 W->WlI W1 T fo R v (BX S ++ r) a (f+1) W):=wN fun W v B h hb=>⟨h.sl,Aa,Aa,f7.out,a7.symm,hb⟩
                     clear a7 vX hq c1;rcases b5 with Xc| ⟨rfl,rfl⟩
                     all_goals
                      go_wp2_with (first|(go_at_call 32;(with_reducible refine Ad KF.out ?_);rintro w3 rfl)|(go_at_call 33;(with_reducible refine Ad KT.out ?_);rintro w6 a6)|(go_at_call 18;(with_reducible refine(b9.out _).mono ?_);rintro e w7 ⟨v7,rfl,c9,a9⟩;have d:=a6.trans (a9.mono a6.size))|(at_builtin;refine C9 _ rfl (.tmp 114) (.tmp 115) rfl w7.heap.size _ _ [] (BX S) rfl (Px w7) b0.out.1 rfl (c9.sl.below (AF w7 _)) (AF w7 _).size ?_;intro v8 w8 h8 c7;have p:=(AF w7 (O #[] 9)).trans c7)|(at_builtin;refine C9 _ rfl (.tmp 116) (.tmp 117) rfl w7.heap.size _ _ (BX S) r rfl h8 b0.out.2 rfl (b6.out _ (d.trans (p.mono d.size))) p.size ?_;intro v9 w9 h9 c8;obtain⟨f2,d8,rfl⟩:=HQ.out _ _ _ h9;have WT:=c.trans ((d.trans ((p.trans c8).mono d.size)).mono c.size);have e5:=HH.out _ WT))
                      go_roundw
                      case rel=>exact⟨_,q,_,a,f+1,_,rfl,f0.out,rfl,by go_num,wN (d9.out _ _ _ h9 WT)⟩
                      case measure=>simp[intOf,bQ];have:=e8.out;omega
                   . rw[AG (by rw[vX,b47.1 pA])] at a7
                     have d9:Hid (∀ (W:E) (v:M) (B:Nat),TR W B v (BX S ++ r)->K W1.heap.size W1 W->WlI W1 T fo R v (BX S ++ r) 1 (f+1) W):=wN fun W v B h hb=>⟨h.sl,Aa,Aa,a0.out.root,a7.symm,hb⟩
                     clear a7 vX hq c1;rcases b5 with Xc| ⟨rfl,rfl⟩
                     all_goals
                      go_wp2_with (first|(go_at_call 32;(with_reducible refine Ad KF.out ?_);rintro w3 rfl)|(go_at_call 33;(with_reducible refine Ad KT.out ?_);rintro w6 a6)|(go_at_call 18;(with_reducible refine(b9.out _).mono ?_);rintro e w7 ⟨v7,rfl,c9,a9⟩;have d:=a6.trans (a9.mono a6.size))|(at_builtin;refine C9 _ rfl (.tmp 114) (.tmp 115) rfl w7.heap.size _ _ [] (BX S) rfl (Px w7) b0.out.1 rfl (c9.sl.below (AF w7 _)) (AF w7 _).size ?_;intro v8 w8 h8 c7;have p:=(AF w7 (O #[] 9)).trans c7)|(at_builtin;refine C9 _ rfl (.tmp 116) (.tmp 117) rfl w7.heap.size _ _ (BX S) r rfl h8 b0.out.2 rfl (b6.out _ (d.trans (p.mono d.size))) p.size ?_;intro v9 w9 h9 c8;obtain⟨f2,d8,rfl⟩:=HQ.out _ _ _ h9;have WT:=c.trans ((d.trans ((p.trans c8).mono d.size)).mono c.size);have e5:=HH.out _ WT))
                      go_roundw
                      case rel=>exact⟨_,q,_,1,f+1,_,rfl,f0.out,rfl,by go_num,wN (d9.out _ _ _ h9 WT)⟩
                      case measure=>simp[intOf,bQ];have:=e8.out;omega
               . have HR:=wN (d7.out.1 ho)
                 have b9:Hid (∀ V,U G 18 #[.string S] V fun e w'=>e=D (C #[X H 0 0,J Y 10])/\K V.heap.size V w'):=wN fun V=>(LX S V).mono fun e w' ⟨h1,hb⟩=>by
                  rcases h1 with⟨hy,_⟩| ⟨_,he⟩
                  . exact absurd hy ho
                  . exact⟨he,hb⟩
                 clear d7 t HI ho;rcases b5 with Xc| ⟨rfl,rfl⟩
                 all_goals
                  go_wp2_with (first|(go_at_call 32;(with_reducible refine Ad KF.out ?_);rintro w3 rfl)|(go_at_call 33;(with_reducible refine Ad KT.out ?_);rintro w6 a6)|(go_at_call 18;(with_reducible refine Ad (b9.out _) ?_);rintro w7 a9;have lN:=c.trans ((a6.trans (a9.mono a6.size)).mono c.size);have g7:=HH.out _ lN)|(with_reducible refine Bw rfl 38 Dj (.tmp 6) (.tmp 109) rfl w.heap.size rfl _ _ _ _ _ _ rfl rfl rfl rfl _ g7 ?_;intro w5 g Du))
                  exact A9 (BH rfl underlying38 Dj _ _ w.heap.size _ _ _ _ _ rfl Du rfl) rfl ⟨by rw[HR.out];rfl,a5.out _ _ lN g⟩
           . have hy:=a8.2 a3
             have O6:=a0.out.kd _ _ Uv;have f8:Hid (T nn=Z y):=wN Uv;clear a8 c2 ZP hi e1 mj b1 Gs e3 d6 d3 Uv hk e6 d4;by_cases Ik:r=[]
             . rw[AG Ik] at hy
               have HR:=wN hy;have Ij:=e0.out.1 Ik;subst Ij;clear hy t HI hm HM;rcases O6 with h|h|h
               . replace a4:wr.cell? ⟨A nn,0,H⟩=Z (J Y 1):=by rw[a4,h];rfl
                 clear h a3
                 go_wp2_with (first|(go_at_call 32;(with_reducible refine Ad KF.out ?_);rintro w3 rfl)|(with_reducible refine Bw rfl 38 Dj (.tmp 6) (.tmp 129) rfl w.heap.size rfl _ _ _ _ _ _ rfl rfl rfl rfl _ qI ?_;intro w5 g Du))
                 exact A9 (BH rfl underlying38 Dj _ _ w.heap.size _ _ _ _ _ rfl Du rfl) rfl ⟨by rw[HR.out];rfl,a5.out _ _ c g⟩
               . replace a4:wr.cell? ⟨A nn,0,H⟩=Z (J Y 2):=by rw[a4,h];rfl
                 clear h a3
                 go_wp2_with (first|(go_at_call 32;(with_reducible refine Ad KF.out ?_);rintro w3 rfl)|(with_reducible refine Bw rfl 38 Dj (.tmp 6) (.tmp 129) rfl w.heap.size rfl _ _ _ _ _ _ rfl rfl rfl rfl _ qI ?_;intro w5 g Du))
                 exact A9 (BH rfl underlying38 Dj _ _ w.heap.size _ _ _ _ _ rfl Du rfl) rfl ⟨by rw[HR.out];rfl,a5.out _ _ c g⟩
               . replace a4:wr.cell? ⟨A nn,0,H⟩=Z (J Y 3):=by rw[a4,h];rfl
                 have Rm:fo=I:=by
                  cases fo
                  . rfl
                  . exact absurd ⟨h,z rfl⟩ a3
                 subst Rm;clear h a3
                 go_wp2_with (first|(go_at_call 32;(with_reducible refine Ad KF.out ?_);rintro w3 rfl)|(with_reducible refine Bw rfl 38 Dj (.tmp 6) (.tmp 129) rfl w.heap.size rfl _ _ _ _ _ _ rfl rfl rfl rfl _ qI ?_;intro w5 g Du))
                 exact A9 (BH rfl underlying38 Dj _ _ w.heap.size _ _ _ _ _ rfl Du rfl) rfl ⟨by rw[HR.out];rfl,a5.out _ _ c g⟩
             . rw[AJ Ik] at hy
               have Xc:(0:Int)<(m:Int):=by
                have:m≠0:=fun e=>Ik (e0.out.2 e)
                omega
               have h7:((m:Int)==0)=I:=(by rw[beq_eq_false_iff_ne];omega);rcases O6 with h|h|h
               . replace a4:wr.cell? ⟨A nn,0,H⟩=Z (J Y 1):=by rw[a4,h];rfl
                 rw[AG (by rw[h];decide)] at hy;have HR:=wN hy;clear h a3 hy t HI hm HM
                 go_wp2_with (first|(go_at_call 32;(with_reducible refine Ad KF.out ?_);rintro w3 rfl)|(with_reducible refine Bw rfl 38 Dj (.tmp 6) (.tmp 135) rfl w.heap.size rfl _ _ _ _ _ _ rfl rfl rfl rfl _ qI ?_;intro w5 g Du))
                 exact A9 (BH rfl underlying38 Dj _ _ w.heap.size _ _ _ _ _ rfl Du rfl) rfl ⟨by rw[HR.out];rfl,a5.out _ _ c g⟩
               . replace a4:wr.cell? ⟨A nn,0,H⟩=Z (J Y 2):=by rw[a4,h];rfl
                 rw[AJ (by rw[h];decide)] at hy;have b3:Hid (WlI W1 T fo R (X d0 m (j-1)) r nn f wr):=wN ⟨t.out,Aa,e4,⟨y,f8.out,h⟩,hy.symm,c⟩;clear h a3 hy t HI hm;go_wp2_with (go_at_call 32;(with_reducible refine Ad KF.out ?_);rintro w3 rfl)
                 go_roundw
                 case rel=>exact⟨_,m,_,nn,f,r,rfl,HM.out,rfl,rfl,b3⟩
                 case measure=>simp[bQ]
               . exact absurd ⟨h,u Ik⟩ a3
         . have ZQ:=SP (fo:=fo) (f:=f) (r:=r) d1 d2 ZP hi
           have e1:Gj x.L s1= -1:=(by unfold Gj;rw[AJ hi]);rw[e1] at KF;rw[mj] at ZQ;by_cases Ik:r=[]
           . have Ij:m=0:=by rw[hm,Ik];rfl
             rw[AG Ik] at ZQ;have HR:=wN ZQ;subst Ij;clear ZQ c2 ZP b1 hi e1 mj HI t hm HM
             go_wp2_with (first|(go_at_call 32;(with_reducible refine Ad KF.out ?_);rintro w3 rfl)|(with_reducible refine Bw rfl 38 Dj (.tmp 6) (.tmp 62) rfl w.heap.size rfl _ _ _ _ _ _ rfl rfl rfl rfl _ qI ?_;intro w5 g Du))
             exact A9 (BH rfl underlying38 Dj _ _ w.heap.size _ _ _ _ _ rfl Du rfl) rfl ⟨by rw[HR.out];rfl,a5.out _ _ c g⟩
           . have Xc:(0:Int)<(m:Int):=by
              have:0<r.length:=List.length_pos_iff.2 Ik;omega
             rw[AJ Ik] at ZQ;have HR:=wN ZQ;clear ZQ c2 ZP b1 hi e1 mj HI t hm HM
             go_wp2_with (first|(go_at_call 32;(with_reducible refine Ad KF.out ?_);rintro w3 rfl)|(with_reducible refine Bw rfl 38 Dj (.tmp 6) (.tmp 59) rfl w.heap.size rfl _ _ _ _ _ _ rfl rfl rfl rfl _ qI ?_;intro w5 g Du))
             exact A9 (BH rfl underlying38 Dj _ _ w.heap.size _ _ _ _ _ rfl Du rfl) rfl ⟨by rw[HR.out];rfl,a5.out _ _ c g⟩
       . have KU:=wN (ji (b7.out wr c) (fun i y hi e=>by have:=a0.out.len _ _ e;omega) (a:Int))
         have b3:Hid (WlI W1 T fo R (X d0 m (j-1)) r (Tk T a) f wr):=wN ⟨t.out,Aa,e4,(by obtain⟨y,a1,a2,_⟩:=aF a0.out (a:Int);exact⟨y,a1,a2⟩),by rw[<- mj,kb d1 d2],c⟩;clear t HI mj ZP hm;go_wp2_with (go_at_call 31;(with_reducible refine Ad KU.out ?_);rintro w3 rfl)
         go_roundw
         case rel=>exact⟨_,m,_,_,f,r,rfl,HM.out,rfl,rfl,b3⟩
         case measure=>simp[bQ]
     . have b3:Hid (WlI W1 T fo R (X d0 m (j-1)) r a f wr):=wN ⟨t.out,Aa,e4,HI.out.dir,by rw[<- mj,Z5 d1],c⟩
       clear t HI mj hm;go_wp2;go_roundw
       case rel=>exact⟨_,m,_,a,f,r,rfl,HM.out,rfl,rfl,b3⟩
       case measure=>simp[bQ]
 . have b8:=wN KP
   have HR:=wN c3;clear KP c3;rcases g5 with rfl|rfl
   all_goals
    go_enter func12,ntmps12
    go_wp2_with (first|(go_at_call 8;rw[H1.out];(with_reducible refine Ad b8.out ?_);rintro w2 c6;have g6:=HH.out _ c6)|(with_reducible refine Bw rfl 38 Dj (.tmp 6) (.tmp 26) rfl w.heap.size rfl _ _ _ _ _ _ rfl rfl rfl rfl _ g6 ?_;intro w5 g Du))
    exact A9 (BH rfl underlying38 Dj _ _ w.heap.size _ _ _ _ _ rfl Du rfl) rfl ⟨by rw[HR.out];rfl,a5.out _ _ c6 g⟩
def Ox{w:E}{h:Option Addr}{n cap:Nat}(i:60<n)(s:ByteArray)(fo:Bool):U G 4 #[X h n cap,.string s,N fo] w fun e w'=>e=D (N P)/\K w.heap.size w w':=by
 have f:=wN (fun V=>Oa V);have g:(60:Int)<(n:Int):=Aa;clear i;go_enter func4,ntmps4
 go_wp2_with (first|(go_at_call 6;(with_reducible refine Ad (f.out w) ?_);rintro j c;have a:=wN c)|(go_at_call 6;(with_reducible refine Ad (f.out _) ?_);rintro k d;have b:=wN (a.out.trans (d.mono a.out.size))))
 go_ret;exact⟨rfl,b.out⟩
def k_(a c:Int)(b:ByteArray)(w:E):(Op.equalIn 10000 38 (p #[J Y a,.string b,J Y c]) (p #[J Y a,.string b,J Y c])).run G w=.ok P w:=by
 have u3:=underlying3;have d:=isAgg3;have g:=sizeOf3;have u9:=underlying9;have f:=isAgg9;have h:=sizeOf9
 go_simp
def Qt{w:E}{v:M}{S:List Th}(hv:ThS w v S)(hS:S.length<=60)(s:ByteArray)(fo:Bool):U G 4 #[v,.string s,N fo] w fun e w'=>e=D (N P)/\K w.heap.size w w':=by
 obtain⟨ao,a1,rfl⟩:=p_ hv;obtain⟨n,hn⟩:=nm S.length;rw[<- hn] at hv hS |-
 have KA:=wN (fun V=>Oa V);have KB:Hid (∀ V,K w.heap.size w V->U G 10 #[X ao n a1] V fun e w'=>∃ B I T A Q m,e=D (C #[F (Z ⟨B,0,H⟩),F (Z ⟨I,0,H⟩)])/\K V.heap.size V w'/\FsW w' B T/\TreH w' V.heap.size I T A Q/\OkT T/\OkU T m):=wN fun V hV=>XI (hv.below hV) Aa
 have g:¬ (60:Int)<(n:Int):=Aa;have a4:=fun a c b W=>k_ a c b W
 clear hv hS hn;go_enter func4,ntmps4
 go_upto_region 6 with(first|(go_at_call 6;(with_reducible refine Ad (KA.out w) ?_);rintro w1 a2;have f:=wN a2)|(go_at_call 10;(with_reducible refine(KB.out _ f.out).mono ?_);rintro e k ⟨B,I,T,A,Q,m,rfl,t,hF,r,hT,hU⟩))
 have o:=wN (f.out.trans (t.mono f.out.size));have z:=wN (Ve hF hT hU s fo);have KR:=wN (fun V (hV:K k.heap.size k V)=>XA (r.low hV) hT s fo);obtain⟨⟨⟨a,b,c⟩,er⟩,hR⟩:∃ R,R=Nf T s fo:=⟨_,rfl⟩;rw[<- hR] at z KR;have z:Hid (U G 11 #[F (Z ⟨B,0,H⟩),.string s,N fo] k fun e w'=>e=D (C #[p #[J Y a,.string b,J Y c],J Y er])/\K k.heap.size k w'):=z;have KR:Hid (∀ V,K k.heap.size k V->U G 12 #[F (Z ⟨I,0,H⟩),.string s,N fo] V fun e w'=>e=D (C #[p #[J Y a,.string b,J Y c],J Y er])/\K V.heap.size V w'):=KR;clear t hF r hT hU hR KA KB
 go_upto_region 8 with(first|(go_at_call 11;(with_reducible refine Ad z.out ?_);rintro x u;have a3:=u.alloc u.size (O #[J Y a,.string b,J Y c] 35);have h:=wN a3)|(go_at_call 12;(with_reducible refine Ad (KR.out _ h.out) ?_);rintro y i))
 have j:=AC x (O #[J Y a,.string b,J Y c] 35);have q:=AC y (O #[J Y a,.string b,J Y c] 38);have d:=i.alloc i.size (O #[J Y a,.string b,J Y c] 38);have M6:=(Au.1 j).1;generalize y.alloc (O #[J Y a,.string b,J Y c] 38)=l at q d |-
 have L:=(d.block x.heap.size M6).trans j;have a0:=wN (h.out.trans (d.mono h.out.size));have k0:l.cell? ⟨x.heap.size,0,H⟩=Z (J Y a):=by rw[AD _ _ _ _ _ _ L];rfl
 have k1:l.cell? ⟨x.heap.size,1,H⟩=Z (.string b):=by rw[AD _ _ _ _ _ _ L];rfl
 have k2:l.cell? ⟨x.heap.size,2,H⟩=Z (J Y c):=by rw[AD _ _ _ _ _ _ L];rfl
 have m0:l.cell? ⟨y.heap.size,0,H⟩=Z (J Y a):=by rw[AD _ _ _ _ _ _ q];rfl
 have m1:l.cell? ⟨y.heap.size,1,H⟩=Z (.string b):=by rw[AD _ _ _ _ _ _ q];rfl
 have m2:l.cell? ⟨y.heap.size,2,H⟩=Z (J Y c):=by rw[AD _ _ _ _ _ _ q];rfl
 clear j q d M6 L i;go_wp2;go_ret;exact⟨Ai,o.out.trans (a0.out.mono o.out.size)⟩
end
section
open Go.RowKit Go.ChangeShapes Go.WideShapes
def lPathWalks_any{W:E}{v:M}{S:List Th}(hv:ThS W v S)(s:ByteArray)(fo:Bool):U G 4 #[v,.string s,N fo] W fun e w'=>e=D (N P)/\K W.heap.size W w':=by
 by_cases h:S.length<=60
 . exact Qt hv h s fo
 . obtain⟨b,a,rfl⟩:=p_ hv
   exact Ox Aa s fo
end
end Go.Proofs.YtfpdajplfmakhaaGreatDoor
