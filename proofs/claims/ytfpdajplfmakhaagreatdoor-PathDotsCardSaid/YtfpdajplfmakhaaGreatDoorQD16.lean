/- What the law rests on. -/
import Derived.Test.YtfpdajplfmakhaaGreatDoorQD15
open Go.Value renaming int->Z,slice->Aw,pointer->G,tuple->u,bool->AY,agg->BS
open Go.IntKind renaming i64->Y
open Go.Proofs.Tryz renaming prog->U
open Option renaming none->K,some->J
open Go renaming World->E,Value->I,Calls->M,TypeId->Cn
open Go.Ending renaming returned->z
open Go.Obj renaming cells->R
open Go.RowKit renaming Below->C
open Bool renaming false->AN,true->AQ
open Or renaming inl->A4,inr->A8
open List renaming range->BE
open Go.Proofs.Tryz
namespace Go.Proofs.YtfpdajplfmakhaaGreatDoor
set_option linter.defProp false
set_option maxHeartbeats 12000000
set_option linter.unusedVariables false
set_option maxRecDepth 100000
section
open Go.RowKit BM
def sS(w:E)(s:ByteArray):E:=w.drew.alloc (R (bytesRow s (grownCap w s.size 0 5)) 5 ((bytesRow s (grownCap w s.size 0 5)).size,(bytesRow s (grownCap w s.size 0 5)).size+1))
def wd(w:E)(s:ByteArray):Nat:=grownCap w s.size 0 5
def ij(w:E)(s:ByteArray):(convert 9 77 (.string s)).run U w=.ok (Aw (J ⟨w.heap.size,0,K⟩) s.size (wd w s)) (sS w s):=run_bytes_of_string w 9 77 5 s underlying9 underlying77 underlying5
def Yn(w:E)(s:ByteArray):C w.heap.size w (sS w s)/\BSl (sS w s) (Aw (J ⟨w.heap.size,0,K⟩) s.size (wd w s)) (Ey s):=by
 obtain⟨b,f,a,c,d⟩:=oE w s;rw[ij] at a
 injection a with e1 e2
 injection e1 with _ _ e3
 rw[e2,e3];exact⟨c,d⟩
def jF{w w':E}(s:ByteArray)(h:C w.heap.size w w'):C w.heap.size w (sS w' s):=h.trans ((Yn w' s).1.mono h.size)
abbrev Th:=Int × Int × ByteArray × ByteArray
def ThS(w:E)(v:I)(S:List Th):Prop:=∃ d c,v=Aw d S.length c/\∀ j,j<S.length->∃ b a,d=J ⟨b,a,K⟩/\∀ W,C w.heap.size w W->
 W.cell? ⟨b,a+j*4,K⟩=J (Z Y (S.getD j default).1)/\W.cell? ⟨b,a+j*4+1,K⟩=J (Z Y (S.getD j default).2.1)/\W.cell? ⟨b,a+j*4+2,K⟩=J (.string (S.getD j default).2.2.1)/\W.cell? ⟨b,a+j*4+3,K⟩=J (.string (S.getD j default).2.2.2)
structure TwB (w0:E) (bf:Nat) (Φ:(Nat->Prop)->E->Prop) (P:Nat->Prop) (bt:Nat) (T:Fa) (A Q:Nat->Nat) (xb:Nat) (o:Obj) (w:E):Prop where
 tw:TwS w0 bf Φ P bt T A Q w
 row:w.heap[xb]? =J o
 np:¬ P xb
 nt:¬ QZ w bt T A Q xb
section
variable {w0 w w':E}{bf bt xb:Nat}{p:I}{Φ Ψ:(Nat->Prop)->E->Prop}{P P':Nat->Prop}{T T':Fa}{A Q A' Q':Nat->Nat}{o:Obj}
def TwS.iff(h:TwS w0 bf Φ P bt T A Q w)(a:∀ k,QZ w bt T A Q k->w'.heap[k]? =w.heap[k]?){k:Nat}:QZ w' bt T A Q k ↔ QZ w bt T A Q k:=(h.tr.keepB a).2 k
def TwB.low(b:ClD w0 bf p Φ)(h:TwB w0 bf Φ P bt T A Q xb o w)(hb:C w.heap.size w w'):TwB w0 bf Φ P bt T A Q xb o w':=
 ⟨h.tw.low b hb,(hb.block _ (Au.1 h.row).1).trans h.row,h.np,fun a=>h.nt ((h.tw.iff fun k a=>hb.block k (h.tw.tr.bLo a).2).1 a)⟩
def TwB.fsy(h:TwB w0 bf Φ P bt T A Q xb o w)(hp:Ψ P' w')(b:Chg P P' w w'):TwB w0 bf Ψ P' bt T A Q xb o w':=by
 obtain⟨c,d⟩:=b.keep xb (Au.1 h.row).1 h.np;exact⟨h.tw.fsy hp b,c.trans h.row,d,fun a=>h.nt ((h.tw.iff fun k a=>(b.keep k (h.tw.tr.bLo a).2 (h.tw.ap k a).1).1).1 a)⟩
def TwB.tree(a:ClD w0 bf p Φ)(h:TwB w0 bf Φ P bt T A Q xb o w)(f:TreH w' w0.heap.size bt T' A' Q')(b:Chg (QZ w bt T A Q) (QZ w' bt T' A' Q') w w'):TwB w0 bf Φ P bt T' A' Q' xb o w':=by
 obtain⟨c,d⟩:=b.keep xb (Au.1 h.row).1 h.nt;exact⟨h.tw.tree a f b,c.trans h.row,h.np,d⟩
def TwS.box(b:ClD w0 bf p Φ)(h:TwS w0 bf Φ P bt T A Q w)(c:Array I)(t:Cn):TwB w0 bf Φ P bt T A Q w.heap.size (R c t (0,0)) (w.alloc (R c t)):=
 ⟨h.low b (AF w (R c t)),AC w (R c t),fun d=>by have:=(b.lt h.ph _ d).2;omega,fun a=>by
   have:=(h.tr.bLo ((h.iff fun k a=>(AF w (R c t)).block k (h.tr.bLo a).2).1 a)).2;omega⟩
end
def TwB.cells{w0 w:E}{bf bt xb:Nat}{p:I}{Φ:(Nat->Prop)->E->Prop}{P:Nat->Prop}{T:Fa}{A Q:Nat->Nat}{f a:Int}{b c:ByteArray}(d:ClD w0 bf p Φ)(h:TwB w0 bf Φ P bt T A Q xb (R #[Z Y f,Z Y a,.string b,.string c] 54 (0,0)) w):
 w.cell? ⟨xb,1,K⟩=J (Z Y a)/\w.cell? ⟨xb,2,K⟩=J (.string b)/\w.cell? ⟨xb,3,K⟩=J (.string c)/\w.cell? ⟨bf,0,K⟩=J p:=
 ⟨by rw[AD _ _ _ _ _ _ h.row];rfl,by rw[AD _ _ _ _ _ _ h.row];rfl,by rw[AD _ _ _ _ _ _ h.row];rfl,(d.fs h.tw.ph).1.cell⟩
def BuI(w0:E)(d p:I)(bf bt i:Nat)(w:E):Prop:=∃ P T A Q m c,TwS w0 bf (RestT w0 d p 3 bf T c) P bt T A Q w/\OkT T/\OkU T m/\Te T m/\1<=m/\m<=47/\m<=1+i/\c<=4+2*m
def BuI.low{w0 w w':E}{d p:I}{bf bt i:Nat}(h:BuI w0 d p bf bt i w)(hb:C w.heap.size w w'):BuI w0 d p bf bt (i+1) w':=by
 obtain⟨P,T,A,Q,m,c,a,b,e,f,g,j,l,k⟩:=h;exact⟨P,T,A,Q,m,c,a.low (Pb w0 d p 3 bf T c) hb,b,e,f,g,j,Aa,k⟩
def TreH.more{w:E}{B B' bt:Nat}{T:Fa}{A Q:Nat->Nat}(h:TreH w B bt T A Q)(c:B'<=B):TreH w B' bt T A Q:=
 ⟨h.row,AU c h.lo,fun i x f e=>by
   have d:=h.nd i x f e;obtain⟨v,a,b⟩:=d.row;exact⟨⟨v,a,b.more c⟩,d.map,AU c d.lo.1,AU c d.lo.2⟩,h.inj⟩
def d_{w b w3:E}{d p:I}{bf bt:Nat}{P:Nat->Prop}{A Q:Nat->Nat}(a:RestT w d p 3 bf T0 6 P b)(f:TreH w3 b.heap.size bt T0 A Q)(hb:C b.heap.size b w3):BuI w d p bf bt 0 w3:=by
 have c:=Pb w d p 3 bf T0 6;have i:=(c.be a).size;refine⟨P,T0,A,Q,1,6,⟨a.low hb,f.more i,fun k g=>?_⟩,wz,tD,wn,AE _,Aa,Aa,Aa⟩;have j:=(f.bLo g).1;exact⟨fun h=>by have:=(c.lt a k h).2;omega,fun e=>by have:=(Au.1 (c.fs a).1).1;omega⟩
def Yo{w:E}{v:I}{S:List Th}(hv:ThS w v S)(hS:S.length<=60):M U 10 #[v] w fun e w'=>∃ bf bt d p,e=z (u #[G (J ⟨bf,0,K⟩),G (J ⟨bt,0,K⟩)])/\∃ i,BuI w d p bf bt i w':=by
 obtain⟨ao,c7,rfl,Gs⟩:=hv;obtain⟨n,hn⟩:=nm S.length;have c9:Hid (∀ W j,C w.heap.size w W->j<n->∃ b a4 X F f r,ao=J ⟨b,a4,K⟩/\W.cell? ⟨b,a4+j*4,K⟩=J (Z Y X)/\W.cell? ⟨b,a4+j*4+1,K⟩=J (Z Y F)/\W.cell? ⟨b,a4+j*4+2,K⟩=J (.string f)/\W.cell? ⟨b,a4+j*4+3,K⟩=J (.string r)):=wN fun W j hW hj=>by
  obtain⟨b,a4,e,hc⟩:=Gs j Aa;obtain⟨a0,a1,a2,a3⟩:=hc W hW;exact⟨b,a4,_,_,_,_,e,a0,a1,a2,a3⟩
 have KS:=wN (aR (kk:=3) Af Af w (AP _ w));rw[show(64*((3:Nat):Int))=192 from rfl] at KS;have KT:=wN (fun V:E=>dl V 192);rw[<- hn];have m7:n<=60:=Aa;clear Gs hn hS;go_enter func10,ntmps10
 go_wp2_with (first|(go_at_call 15;(with_reducible refine KS.out.mono ?_);rintro e w1 ⟨b,rfl,l4,KN⟩;have j3:=wN KN;clear KN)|(go_at_call 14;(with_reducible refine j3.out.mono ?_);rintro e w2 ⟨bf,P,d,rfl,hr⟩;have i9:=wN hr;clear hr)|(go_at_call 19;(with_reducible refine(KT.out _).mono ?_);rintro e w3 ⟨bt,rfl,ht,k4⟩;have j0:=wN ht;clear ht))
 have i2:=wN (by obtain⟨A,Q,ht⟩:=j0.out;exact d_ i9.out ht k4:BuI w d (G (J ⟨b,0,K⟩)) bf bt 0 w3);clear i9 j0 KS KT j3 l4 k4;go_loopw [22] (fun i wr=>∃ k:Nat,k<=n/\i=Z Y k/\Hid (BuI w d (G (J ⟨b,0,K⟩)) bf bt k wr)) (fun i _=>n-(intOf i).toNat)
 case atStart=>exact⟨0,A7 _,rfl,i2⟩
 case round=>
  obtain⟨k,hk,rfl,HI⟩:=hrel;clear i2;by_cases m0:k<n
  . have lO:(k:Int)<(n:Int):=by omega
    have hI:=HI.out;obtain⟨P,T,A,Q,m,c,hT,ho,hu,hm,m1,sP,rY,Jp⟩:=hI;have hC:=Pb w d (G (J ⟨b,0,K⟩)) 3 bf T c;obtain⟨bb,a4,X,F,f,r,rfl,a0,a1,a2,a3⟩:=c9.out wr k (hT.be hC) m0;have hB:=hT.box hC #[Z Y X,Z Y F,.string f,.string r] 54;obtain⟨W1,h6⟩:=nm (wr.alloc (R #[Z Y X,Z Y F,.string f,.string r] 54));have sQ:=AF wr (R #[Z Y X,Z Y F,.string f,.string r] 54);rw[<- h6] at hB sQ;have H1:Hid (wr.alloc (R #[Z Y X,Z Y F,.string f,.string r] 54)=W1):=wN h6.symm;obtain⟨xb,h7⟩:=nm wr.heap.size;rw[<- h7] at hB;have a6:=wN h7;have b0:W1.cell? ⟨xb,0,K⟩=J (Z Y X):=(by rw[AD _ _ _ _ _ _ hB.row];rfl);have b1:W1.cell? ⟨xb,1,K⟩=J (Z Y F):=(by rw[AD _ _ _ _ _ _ hB.row];rfl);have b2:W1.cell? ⟨xb,2,K⟩=J (.string f):=(by rw[AD _ _ _ _ _ _ hB.row];rfl);have b3:W1.cell? ⟨xb,3,K⟩=J (.string r):=(by rw[AD _ _ _ _ _ _ hB.row];rfl);obtain⟨y,hy⟩:∃ y:Nat,IntKind.u64.wrap X=(y:Int):=⟨(IntKind.u64.wrap X).toNat,by rw[IntKind.wrap_u64];omega⟩;have m2:(y:Int)<18446744073709551616:=(by rw[<- hy,IntKind.wrap_u64];omega);obtain⟨a,gJ⟩:=nm (y%48);have y2:((y:Int)).tmod 48=(a:Int):=(by rw[DW Aa];omega);have y3:IntKind.u64.wrap (a:Int)=(a:Int):=u64_in _ Aa Aa;have y4:Y.wrap (a:Int)=(a:Int):=Bz _ Aa;have y5:(a:Int)<48:=Aa;have lR:a<48:=Aa;have ct:=hB.tw.tr.cell lR;have c2:Hid (BuI w d (G (J ⟨b,0,K⟩)) bf bt (k+1) W1):=wN (HI.out.low sQ);have k9:Hid (∀ N,BuI w d (G (J ⟨b,0,K⟩)) bf bt (k+1) (W1.drewN N)):=wN fun N=>HI.out.low (Bd sQ N)
    clear gJ h7 h6 m2;cases Ko:T a with
    |none=>
     rw[Ma Ko] at ct;clear Ko hT ho hu hm hB hC
     as_aux_lemma=>
      go_upto_region 8 with(fail)
      rw[H1.out,<- a6.out];go_wp2;go_roundw
      case rel=>exact⟨k+1,Aa,by go_num,c2⟩
      case measure=>simp[intOf];omega
    |some yd=>
     rw[Gn Ko] at ct;have a5:=hB.tw.tr.nd a yd lR Ko;have c0:=a5.c0;by_cases JH:yd.kd=2
     . replace c0:W1.cell? ⟨A a,0,K⟩=J (Z Y 2):=by rw[c0,JH];rfl
       by_cases e7:F<1
       . clear Ko hT ho hu hm hB hC a5 JH
         as_aux_lemma=>
          go_upto_region 8 with(fail)
          rw[H1.out,<- a6.out];go_wp2;go_roundw
          case rel=>exact⟨k+1,Aa,by go_num,c2⟩
          case measure=>simp[intOf];omega
       . by_cases qC:3<F
         . clear Ko hT ho hu hm hB hC a5 JH
           as_aux_lemma=>
            go_upto_region 8 with(fail)
            rw[H1.out,<- a6.out];go_wp2;go_roundw
            case rel=>exact⟨k+1,Aa,by go_num,c2⟩
            case measure=>simp[intOf];omega
         . cases W6:Ie f
           . have b9:=wN (fun V=>Vh f AN W6 V)
             clear Ko hT ho hu hm hB hC a5 JH W6
             as_aux_lemma=>
              go_upto_region 8 with(fail)
              rw[H1.out,<- a6.out]
              go_wp2_with (first|(go_at_call 20;(with_reducible refine Ad (b9.out _) ?_);rintro w4 rfl))
              go_roundw
              case rel=>exact⟨k+1,Aa,by go_num,c2⟩
              case measure=>simp[intOf];omega
           . have b9:=wN (fun V=>Vh f AQ W6 V)
             by_cases qw:F=3/\(r.size<1\/200<r.size)
             . obtain⟨rfl,ht⟩:=qw
               rcases ht with ht|ht
               . have e1:(r.size:Int)<1:=by omega
                 clear Ko hT ho hu hm hB hC a5 JH W6
                 as_aux_lemma=>
                  go_upto_region 8 with(fail)
                  rw[H1.out,<- a6.out]
                  go_wp2_with (first|(go_at_call 20;(with_reducible refine Ad (b9.out _) ?_);rintro w4 rfl))
                  go_roundw
                  case rel=>exact⟨k+1,Aa,by go_num,c2⟩
                  case measure=>simp[intOf];omega
               . have e1:¬ (r.size:Int)<1:=by omega
                 have e2:(200:Int)<(r.size:Int):=Aa;clear Ko hT ho hu hm hB hC a5 JH W6
                 as_aux_lemma=>
                  go_upto_region 8 with(fail)
                  rw[H1.out,<- a6.out]
                  go_wp2_with (first|(go_at_call 20;(with_reducible refine Ad (b9.out _) ?_);rintro w4 rfl))
                  go_roundw
                  case rel=>exact⟨k+1,Aa,by go_num,c2⟩
                  case measure=>simp[intOf];omega
             . obtain⟨v4,c4,d9⟩:=a5.c4
               have m5:=ho.len _ _ Ko;have cn:=(hC.fs hB.tw.ph).1.cell;have f0:Hid (W1.drew.cell? ⟨bt,a,K⟩=J (G (J ⟨A a,0,K⟩))/\W1.drew.cell? ⟨A a,4,K⟩=J v4/\W1.drew.cell? ⟨xb,2,K⟩=J (.string f)/\W1.drew.cell? ⟨bf,0,K⟩=J (G (J ⟨b,0,K⟩))):=wN ⟨ct,c4,b2,cn⟩;by_cases Ro:DM yd.L f<yd.L.length
               . have e3:Hid (∀ N:Nat,M U 21 #[v4,.string f] (W1.drewN N) fun e w'=>e=z (AY AQ)/\W1.drewN N=w'):=wN fun N=>(Ql (d9.sl.below (Bd (AP _ W1) N)) Aa f).mono fun e w' h=>by rw[AK Ro] at h;exact h
                 have bq:F=1\/F=2\/F=3/\¬ (r.size:Int)<1/\¬ (200:Int)<(r.size:Int):=Aa;clear Ko hT ho hu hm hB hC a5 JH W6 Ro d9 e7 qC qw c9 HI;rcases bq with rfl|rfl| ⟨rfl,e1,e2⟩
                 all_goals
                  as_aux_lemma=>
                   go_upto_region 8 with(fail)
                   rw[H1.out,<- a6.out]
                   go_upto_region 10 with(first|(go_at_call 20;(with_reducible refine Ad (b9.out _) ?_);rintro w4 rfl))
                   go_quiet ((go_at_call 21;refine DN (e3.out _)))
                   go_wp2;go_roundw
                   case rel=>exact⟨k+1,Aa,by go_num,wN (k9.out _)⟩
                   case measure=>simp[intOf];omega
               . have n1:w.heap.size<=W1.heap.size:=(hB.tw.be hC).size
                 have n0:=(hm a).1 (by rw[Ko];rfl);have hr:∀ j x,T j=J x->1<=j/\j<48:=ho.hi;have Ul:∀ j x,T j=J x->x.kd≠0:=fun j x e=>by have:=ho.kd j x e;omega
                 obtain⟨O,O6⟩:∃ O:Nat,F=(O:Int):=⟨F.toNat,Aa⟩;have ZR:1<=O/\O<=3:=Aa;have CI:=fun(q:Nat)=>gU w d (G (J ⟨b,0,K⟩)) 3 bf T c (m+1) a T c q
                 have e3:Hid (M U 21 #[v4,.string f] W1.drew fun e w'=>e=z (AY AN)/\W1.drew=w'):=wN ((Ql (d9.sl.below ((AP _ W1).drew)) Aa f).mono fun e w' h=>by rw[AM Ro] at h;exact h);have c8:=hB.low hC ((AP _ W1).drew);have f1:=wN ((c8.tw.ph.begin (m+1) a).mono fun(e:Ending) w' ⟨he,P',hp,hc⟩=>show e=Ending.returned (Z Y 0)/\w'.cell? ⟨A a,4,K⟩=J v4/\∃ P',TwB w bf (InT w d (G (J ⟨b,0,K⟩)) 3 bf T c (m+1) a T c 9) P' bt T A Q xb (R #[Z Y X,Z Y F,.string f,.string r] 54 (0,0)) w' from⟨he,(Bi (hc.keep (A a) (c8.tw.tr.nd a yd lR Ko).lt.1 (c8.tw.ap _ (A4 (A8 ⟨a,lR,by rw[Ko];rfl,A4 rfl⟩))).1).1).trans c4,P',c8.fsy hp hc⟩)
                 have e0:=wN (fun B o (t:TwB w bf (InT w d (G (J ⟨b,0,K⟩)) 3 bf T c (m+1) a T c 9) B bt T A Q xb (R #[Z Y X,Z Y F,.string f,.string r] 54 (0,0)) o)=>(XD t.tw.tr ((t.tw.be (CI 9)).size) hm Aa Ko JH Aa (kd:=O) f 0).mono fun(e:Ending) w' hh=>show
                  (m<47/\e=Ending.returned (u #[Z Y ((m:Int)+1),Z Y 0])/\∃ A' Q',TwB w bf (InT w d (G (J ⟨b,0,K⟩)) 3 bf T c (m+1) a T c 9) B bt (TC T (m+1) a O f) A' Q' xb (R #[Z Y X,Z Y F,.string f,.string r] 54 (0,0)) w')\/(m=47/\e=Ending.returned (u #[Z Y 0,Z Y 13])/\TwB w bf (InT w d (G (J ⟨b,0,K⟩)) 3 bf T c (m+1) a T c 9) B bt T A Q xb (R #[Z Y X,Z Y F,.string f,.string r] 54 (0,0)) w') from by
                    rcases hh with⟨h1,h2,A',Q',h3,h4⟩| ⟨h1,h2,h3⟩
                    . exact A4 ⟨h1,by rw[h2];rfl,A',Q',t.tree (CI 9) h3 h4⟩
                    . exact A8 ⟨h1,h2,t.low (CI 9) h3⟩)
                 have b8:Hid (∀ B T' A' Q' o,TwB w bf (InT w d (G (J ⟨b,0,K⟩)) 3 bf T c (m+1) a T c 9) B bt T' A' Q' xb (R #[Z Y X,Z Y F,.string f,.string r] 54 (0,0)) o->o.cell? ⟨xb,1,K⟩=J (Z Y F)/\o.cell? ⟨xb,2,K⟩=J (.string f)/\o.cell? ⟨xb,3,K⟩=J (.string r)/\o.cell? ⟨bf,0,K⟩=J (G (J ⟨b,0,K⟩))):=wN fun B T' A' Q' o t=>t.cells (CI 9)
                 have e9:Hid (∀ P' o,TwB w bf (InT w d (G (J ⟨b,0,K⟩)) 3 bf T c (m+1) a T c 9) P' bt T A Q xb (R #[Z Y X,Z Y F,.string f,.string r] 54 (0,0)) o->o.cell? ⟨bt,a,K⟩=J (G (J ⟨A a,0,K⟩))/\o.cell? ⟨xb,2,K⟩=J (.string f)/\o.cell? ⟨bf,0,K⟩=J (G (J ⟨b,0,K⟩))):=wN fun P' o t=>by
                  have g1:=t.tw.tr.cell lR;rw[Gn Ko] at g1;exact⟨g1,(t.cells (CI 9)).2.1,(t.cells (CI 9)).2.2.2⟩
                 have a9:=wN (fun B o (lQ:m=47) (t:TwB w bf (InT w d (G (J ⟨b,0,K⟩)) 3 bf T c (m+1) a T c 9) B bt T A Q xb (R #[Z Y X,Z Y F,.string f,.string r] 54 (0,0)) o)=>(t.tw.ph.full (by rw[<- lQ];exact hm) Ul (kd:=O) ZR).mono fun(e:Ending) w' hh=>show e=Ending.returned (u #[Z Y 0,Z Y 13])/\TwB w bf (InT w d (G (J ⟨b,0,K⟩)) 3 bf T c (m+1) a T c 9) B bt T A Q xb (R #[Z Y X,Z Y F,.string f,.string r] 54 (0,0)) w' from⟨hh.1,t.low (CI 9) hh.2⟩);have c1:=wN (fun B o (t:TwB w bf (InT w d (G (J ⟨b,0,K⟩)) 3 bf T c (m+1) a T c 9) B bt T A Q xb (R #[Z Y X,Z Y F,.string f,.string r] 54 (0,0)) o)=>t.tw.ph.undo.mono fun(e:Ending) w' ⟨he,P',hp,hc⟩=>show e=Ending.returned (Z Y 0)/\BuI w d (G (J ⟨b,0,K⟩)) bf bt (k+1) w' from⟨he,P',T,A,Q,m,c,(t.fsy hp hc).tw,ho,hu,hm,m1,sP,Aa,Jp⟩);simp only[<- O6] at e0 a9;have bq:F=1\/F=2\/F=3/\¬ (r.size:Int)<1/\¬ (200:Int)<(r.size:Int):=Aa;by_cases lQ:m=47
                 . have j2:Hid (∀ B o,TwB w bf (InT w d (G (J ⟨b,0,K⟩)) 3 bf T c (m+1) a T c 9) B bt T A Q xb (R #[Z Y X,Z Y F,.string f,.string r] 54 (0,0)) o->M U 23 #[G (J ⟨bt,0,K⟩),BS #[Z Y a,.string f,Z Y 0],Z Y F] o fun e w'=>e=z (u #[Z Y 0,Z Y 13])/\TwB w bf (InT w d (G (J ⟨b,0,K⟩)) 3 bf T c (m+1) a T c 9) B bt T A Q xb (R #[Z Y X,Z Y F,.string f,.string r] 54 (0,0)) w'):=wN fun B o t=>(e0.out B o t).mono fun e w' hh=>by
                    rcases hh with⟨h1,_⟩| ⟨_,h2⟩
                    . omega
                    . exact h2
                   have k8:=wN lQ;clear hT ho hu hm hB hC a5 JH W6 Ro d9 e7 qC qw c9 HI c8 hr Ul CI Ko O6 ZR;rcases bq with rfl|rfl| ⟨rfl,e1,e2⟩
                   all_goals
                    as_aux_lemma=>
                     go_upto_region 8 with(fail)
                     rw[H1.out,<- a6.out]
                     go_upto_region 10 with(first|(go_at_call 20;(with_reducible refine Ad (b9.out _) ?_);rintro w4 rfl))
                     go_region_held3 (fun V=>V.cell? ⟨bt,a,K⟩=J (G (J ⟨A a,0,K⟩))/\V.cell? ⟨A a,4,K⟩=J v4/\V.cell? ⟨xb,2,K⟩=J (.string f)/\V.cell? ⟨bf,0,K⟩=J (G (J ⟨b,0,K⟩))) (first|exact g9|exact f0.out) (first|(go_at_call 21;(with_reducible refine Ad e3.out ?_);rintro w5 rfl)|(go_at_call 22;(with_reducible refine Ad f1.out ?_);rintro w9 ⟨d4,B,t⟩;obtain⟨d1,d2,d3⟩:=e9.out _ _ t;have g9:=And.intro d1 (And.intro d4 (And.intro d2 d3))))
                     obtain⟨d5,d6,d7,d8⟩:=b8.out _ _ _ _ _ t;have d0:=wN (j2.out _ _ t)
                     go_wp2_with (first|(go_at_call 23;(with_reducible refine Ad d0.out ?_);rintro h8 F5;obtain⟨f5,f6,f7,f8⟩:=b8.out _ _ _ _ _ F5;have a8:=wN (a9.out _ _ k8.out F5))|(go_at_call 24;(with_reducible refine Ad a8.out ?_);rintro i0 lS;obtain⟨g5,g6,g7,g8⟩:=b8.out _ _ _ _ _ lS;have j4:=wN (c1.out _ _ lS))|(go_at_call 25;(with_reducible refine Ad j4.out ?_);rintro i1 b5))
                     go_roundw
                     case rel=>exact⟨k+1,Aa,by go_num,wN b5⟩
                     case measure=>simp[intOf];omega
                 . have m6:m<47:=by omega
                   have gP:a≠m+1:=Aa;have em:((m+1:Nat):Int)=(m:Int)+1:=Aa;have Uv:∀ j x,(upd T (m+1) (J ⟨O,[],[]⟩)) j=J x->1<=j/\j<48:=fun j x e=>by
                    by_cases ej:j=m+1
                    . omega
                    . rw[Cx _ _ ej] at e;exact hr j x e
                   have pC:(upd T (m+1) (J ⟨O,[],[]⟩)) a=J yd:=(by rw[Cx _ _ gP];exact Ko);have Up:Ff (((m+1:Nat):Int),f)=AQ:=by
                    unfold Ff;rw[AK (show(1:Int)<=((m+1:Nat):Int) from Aa),AK (show((m+1:Nat):Int)<48 from Aa)];exact W6
                   have CK:=fun(l:Int)=>rq w d (G (J ⟨b,0,K⟩)) 3 bf T c (m+1) a (upd T (m+1) (J ⟨O,[],[]⟩)) c 9 O l
                   have CN:=fun(c' q':Nat) (T':Fa)=>gU w d (G (J ⟨b,0,K⟩)) 3 bf T c (m+1) a T' c' q'
                   have f9:Hid (∀ B o,TwB w bf (InT w d (G (J ⟨b,0,K⟩)) 3 bf T c (m+1) a T c 9) B bt T A Q xb (R #[Z Y X,Z Y F,.string f,.string r] 54 (0,0)) o->M U 23 #[G (J ⟨bt,0,K⟩),BS #[Z Y a,.string f,Z Y 0],Z Y F] o fun e w'=>e=z (u #[Z Y ((m:Int)+1),Z Y 0])/\∃ A' Q',TwB w bf (InT w d (G (J ⟨b,0,K⟩)) 3 bf T c (m+1) a T c 9) B bt (TC T (m+1) a O f) A' Q' xb (R #[Z Y X,Z Y F,.string f,.string r] 54 (0,0)) w'):=wN fun B o t=>(e0.out B o t).mono fun e w' hh=>by
                    rcases hh with⟨_,h2⟩| ⟨h1,_⟩
                    . exact h2
                    . omega
                   have g0:Hid (∀ B T1 D H o,TwB w bf (InT w d (G (J ⟨b,0,K⟩)) 3 bf T c (m+1) a T c 9) B bt T1 D H xb (R #[Z Y X,Z Y F,.string f,.string r] 54 (0,0)) o->M U 24 #[G (J ⟨bf,0,K⟩),Z Y F] o fun e w'=>e=z (u #[Z Y ((m:Int)+1),Z Y 0])/\∃ P',TwB w bf (InK w d (G (J ⟨b,0,K⟩)) 3 bf T c (m+1) a (upd T (m+1) (J ⟨O,[],[]⟩)) c 9 O 0) P' bt T1 D H xb (R #[Z Y X,Z Y F,.string f,.string r] 54 (0,0)) w'):=wN fun B T1 D H o t=>by
                    rw[O6,<- em];exact(t.tw.ph.make hm Aa Aa Ul Aa ZR).mono fun e w' ⟨he,P',hp,hc⟩=>⟨he,P',O6 ▸ t.fsy hp hc⟩
                   have g2:Hid (∀ B T1 D H o,TwB w bf (InK w d (G (J ⟨b,0,K⟩)) 3 bf T c (m+1) a (upd T (m+1) (J ⟨O,[],[]⟩)) c 9 O 0) B bt T1 D H xb (R #[Z Y X,Z Y F,.string f,.string r] 54 (0,0)) o->M U 13 #[G (J ⟨bf,0,K⟩),Z Y ((m:Int)+1)] o fun e w'=>e=z (u #[BS #[Z Y F,Z Y 0,Z Y 0,Z Y 0,Z Y 0,Z Y 0,Z Y 0,Z Y 0,Z Y 0,Z Y 0,Z Y 0,Z Y 0,Z Y 0,Z Y 0],Z Y 0])/\TwB w bf (InK w d (G (J ⟨b,0,K⟩)) 3 bf T c (m+1) a (upd T (m+1) (J ⟨O,[],[]⟩)) c 9 O 0) B bt T1 D H xb (R #[Z Y X,Z Y F,.string f,.string r] 54 (0,0)) w'):=wN fun B T1 D H o t=>by
                    have:=t.tw.ph.get Aa Aa;rw[em,<- O6] at this;exact this.mono fun e w' ⟨he,hb⟩=>⟨he,t.low (CK 0) hb⟩
                   have g3:Hid (∀ B T1 D H o,TwB w bf (InK w d (G (J ⟨b,0,K⟩)) 3 bf T c (m+1) a (upd T (m+1) (J ⟨O,[],[]⟩)) c 9 O 0) B bt T1 D H xb (R #[Z Y X,Z Y F,.string f,.string r] 54 (0,0)) o->M U 26 #[G (J ⟨bf,0,K⟩),Z Y ((m:Int)+1),BS #[Z Y F,Z Y 1,Z Y 0,Z Y 0,Z Y 0,Z Y 0,Z Y 0,Z Y 0,Z Y 0,Z Y 0,Z Y 0,Z Y 0,Z Y 0,Z Y 0]] o fun e w'=>e=z (Z Y 0)/\∃ P',TwB w bf (InT w d (G (J ⟨b,0,K⟩)) 3 bf T c (m+1) a (upd T (m+1) (J ⟨O,[],[]⟩)) c 9) P' bt T1 D H xb (R #[Z Y X,Z Y F,.string f,.string r] 54 (0,0)) w'):=wN fun B T1 D H o t=>by
                    have:=t.tw.ph.put (l':=1) Uv (Dy _ _ _) ZR (A8 rfl) Aa;rw[em,<- O6] at this;exact this.mono fun e w' ⟨he,P',hp,hc⟩=>⟨he,P',t.fsy hp hc⟩
                   have g4:Hid (∀ B T1 D H o,TwB w bf (InT w d (G (J ⟨b,0,K⟩)) 3 bf T c (m+1) a (upd T (m+1) (J ⟨O,[],[]⟩)) c 9) B bt T1 D H xb (R #[Z Y X,Z Y F,.string f,.string r] 54 (0,0)) o->M U 27 #[G (J ⟨bf,0,K⟩),Z Y a,BS #[Z Y ((m:Int)+1),.string f]] o fun e w'=>e=z (Z Y 0)/\∃ P',TwB w bf (InT w d (G (J ⟨b,0,K⟩)) 3 bf T c (m+1) a (upd (upd T (m+1) (J ⟨O,[],[]⟩)) a (J { yd with L:=yd.L ++ [(((m+1:Nat):Int),f)] })) (c+1) 11) P' bt T1 D H xb (R #[Z Y X,Z Y F,.string f,.string r] 54 (0,0)) w'):=wN fun B T1 D H o t=>by
                    have:=t.tw.ph.add Uv pC JH (by have:=hu.ln a yd Ko;omega) Aa Aa (e:=(((m+1:Nat):Int),f)) Up Ro;rw[em] at this |-
                    exact this.mono fun e w' ⟨he,P',hp,hc⟩=>⟨he,P',t.fsy hp hc⟩
                   have b7:Hid (∀ (l:Int) B T1 D H o,TwB w bf (InK w d (G (J ⟨b,0,K⟩)) 3 bf T c (m+1) a (upd T (m+1) (J ⟨O,[],[]⟩)) c 9 O l) B bt T1 D H xb (R #[Z Y X,Z Y F,.string f,.string r] 54 (0,0)) o->(o.cell? ⟨xb,1,K⟩=J (Z Y F)/\o.cell? ⟨xb,2,K⟩=J (.string f)/\o.cell? ⟨xb,3,K⟩=J (.string r)/\o.cell? ⟨bf,0,K⟩=J (G (J ⟨b,0,K⟩)))/\∀ V,C o.heap.size o V->TwB w bf (InK w d (G (J ⟨b,0,K⟩)) 3 bf T c (m+1) a (upd T (m+1) (J ⟨O,[],[]⟩)) c 9 O l) B bt T1 D H xb (R #[Z Y X,Z Y F,.string f,.string r] 54 (0,0)) V):=wN fun l B T1 D H o t=>⟨t.cells (CK l),fun V hV=>t.low (CK l) hV⟩
                   have a7:Hid (∀ c' q' T' B T1 D H o,TwB w bf (InT w d (G (J ⟨b,0,K⟩)) 3 bf T c (m+1) a T' c' q') B bt T1 D H xb (R #[Z Y X,Z Y F,.string f,.string r] 54 (0,0)) o->(o.cell? ⟨xb,1,K⟩=J (Z Y F)/\o.cell? ⟨xb,2,K⟩=J (.string f)/\o.cell? ⟨xb,3,K⟩=J (.string r)/\o.cell? ⟨bf,0,K⟩=J (G (J ⟨b,0,K⟩)))/\∀ V,C o.heap.size o V->TwB w bf (InT w d (G (J ⟨b,0,K⟩)) 3 bf T c (m+1) a T' c' q') B bt T1 D H xb (R #[Z Y X,Z Y F,.string f,.string r] 54 (0,0)) V):=wN fun c' q' T' B T1 D H o t=>⟨t.cells (CN c' q' T'),fun V hV=>t.low (CN c' q' T') hV⟩
                   have h0:Hid (F≠3->∀ B D H o,TwB w bf (InT w d (G (J ⟨b,0,K⟩)) 3 bf T c (m+1) a (upd (upd T (m+1) (J ⟨O,[],[]⟩)) a (J { yd with L:=yd.L ++ [(((m+1:Nat):Int),f)] })) (c+1) 11) B bt (TC T (m+1) a O f) D H xb (R #[Z Y X,Z Y F,.string f,.string r] 54 (0,0)) o->M U 25 #[(G (J ⟨b,0,K⟩)),AY AQ] o fun e w'=>e=z (Z Y 0)/\BuI w d (G (J ⟨b,0,K⟩)) bf bt (k+1) w'):=wN fun h3 B D H o t=>t.tw.ph.keep.mono fun e w' ⟨he,P',hp,hc⟩=>by
                    have hq:=(t.fsy hp hc).tw;have l9:O≠3:=Aa;rw[<- SV Ko gP] at hq;exact⟨he,P',TC T (m+1) a O f,D,H,m+1,c+1,hq,pU (kd:=O) (s:=f) (tg:=[]) ho hm Aa Ko JH (by have:=hu.ln a yd Ko;omega) Aa ⟨Af,EX,fun h=>absurd h l9,fun h=>absurd h Af⟩,li (kd:=O) (s:=f) (tg:=[]) hu ho hm Ko W6 Ro,SY (kd:=O) (s:=f) (tg:=[]) hm (by rw[Ko];rfl),Aa,Aa,Aa,Aa⟩
                   rcases bq with rfl|rfl| ⟨rfl,e1,e2⟩
                   . clear hT ho hu hm hB hC a5 JH W6 Ro d9 e7 qC qw c9 HI c8 hr Ul CI Ko O6 ZR Uv pC Up CK CN em e0 a9 c1
                     have KE:=wN (h0.out Af)
                     as_aux_lemma=>
                      go_upto_region 8 with(fail)
                      rw[H1.out,<- a6.out]
                      go_upto_region 10 with(first|(go_at_call 20;(with_reducible refine Ad (b9.out _) ?_);rintro w4 rfl))
                      go_region_held3 (fun V=>V.cell? ⟨bt,a,K⟩=J (G (J ⟨A a,0,K⟩))/\V.cell? ⟨A a,4,K⟩=J v4/\V.cell? ⟨xb,2,K⟩=J (.string f)/\V.cell? ⟨bf,0,K⟩=J (G (J ⟨b,0,K⟩))) (first|exact g9|exact f0.out) (first|(go_at_call 21;(with_reducible refine Ad e3.out ?_);rintro w5 rfl)|(go_at_call 22;(with_reducible refine Ad f1.out ?_);rintro w9 ⟨d4,B,t⟩;obtain⟨d1,d2,d3⟩:=e9.out _ _ t;have g9:=And.intro d1 (And.intro d4 (And.intro d2 d3))))
                      obtain⟨d5,d6,d7,d8⟩:=b8.out _ _ _ _ _ t;have d0:=wN (f9.out _ _ t)
                      go_wp2_with (first|(go_at_call 23;(with_reducible refine Ad d0.out ?_);rintro h8 ⟨D,H,F5⟩;obtain⟨f5,f6,f7,f8⟩:=b8.out _ _ _ _ _ F5;have a8:=wN (g0.out _ _ _ _ _ F5))|(go_at_call 24;(with_reducible refine Ad a8.out ?_);rintro i0 ⟨j9,lS⟩;obtain⟨g5,g6,g7,g8⟩:=(b7.out _ _ _ _ _ _ lS).1;have c6:=wN (g2.out _ _ _ _ _ lS))|(go_at_call 13;(with_reducible refine Ad c6.out ?_);rintro i1 b5;obtain⟨i5,i6,i7,i8⟩:=(b7.out _ _ _ _ _ _ b5).1;have c3:=wN (b7.out _ _ _ _ _ _ b5).2)|(go_at_call 26;(with_reducible refine Ad (g3.out _ _ _ _ _ (c3.out _ (AF _ _))) ?_);rintro k7 ⟨k0,WR⟩;obtain⟨j5,j6,j7,j8⟩:=(a7.out _ _ _ _ _ _ _ _ WR).1;have c5:=wN (g4.out _ _ _ _ _ WR))|(go_at_call 27;(with_reducible refine Ad c5.out ?_);rintro b4 ⟨k1,b6⟩;obtain⟨l5,l6,l7,l8⟩:=(a7.out _ _ _ _ _ _ _ _ b6).1;have e5:=wN (KE.out _ _ _ _ b6))|(go_at_call 25;(with_reducible refine Ad e5.out ?_);rintro m4 h5))
                      go_roundw
                      case rel=>exact⟨k+1,Aa,by go_num,wN h5⟩
                      case measure=>simp[intOf];omega
                   . clear hT ho hu hm hB hC a5 JH W6 Ro d9 e7 qC qw c9 HI c8 hr Ul CI Ko O6 ZR Uv pC Up CK CN em e0 a9 c1
                     have KE:=wN (h0.out Af)
                     as_aux_lemma=>
                      go_upto_region 8 with(fail)
                      rw[H1.out,<- a6.out]
                      go_upto_region 10 with(first|(go_at_call 20;(with_reducible refine Ad (b9.out _) ?_);rintro w4 rfl))
                      go_region_held3 (fun V=>V.cell? ⟨bt,a,K⟩=J (G (J ⟨A a,0,K⟩))/\V.cell? ⟨A a,4,K⟩=J v4/\V.cell? ⟨xb,2,K⟩=J (.string f)/\V.cell? ⟨bf,0,K⟩=J (G (J ⟨b,0,K⟩))) (first|exact g9|exact f0.out) (first|(go_at_call 21;(with_reducible refine Ad e3.out ?_);rintro w5 rfl)|(go_at_call 22;(with_reducible refine Ad f1.out ?_);rintro w9 ⟨d4,B,t⟩;obtain⟨d1,d2,d3⟩:=e9.out _ _ t;have g9:=And.intro d1 (And.intro d4 (And.intro d2 d3))))
                      obtain⟨d5,d6,d7,d8⟩:=b8.out _ _ _ _ _ t;have d0:=wN (f9.out _ _ t)
                      go_wp2_with (first|(go_at_call 23;(with_reducible refine Ad d0.out ?_);rintro h8 ⟨D,H,F5⟩;obtain⟨f5,f6,f7,f8⟩:=b8.out _ _ _ _ _ F5;have a8:=wN (g0.out _ _ _ _ _ F5))|(go_at_call 24;(with_reducible refine Ad a8.out ?_);rintro i0 ⟨j9,lS⟩;obtain⟨g5,g6,g7,g8⟩:=(b7.out _ _ _ _ _ _ lS).1;have c6:=wN (g2.out _ _ _ _ _ lS))|(go_at_call 13;(with_reducible refine Ad c6.out ?_);rintro i1 b5;obtain⟨i5,i6,i7,i8⟩:=(b7.out _ _ _ _ _ _ b5).1;have c3:=wN (b7.out _ _ _ _ _ _ b5).2)|(go_at_call 26;(with_reducible refine Ad (g3.out _ _ _ _ _ (c3.out _ (AF _ _))) ?_);rintro k7 ⟨k0,WR⟩;obtain⟨j5,j6,j7,j8⟩:=(a7.out _ _ _ _ _ _ _ _ WR).1;have c5:=wN (g4.out _ _ _ _ _ WR))|(go_at_call 27;(with_reducible refine Ad c5.out ?_);rintro b4 ⟨k1,b6⟩;obtain⟨l5,l6,l7,l8⟩:=(a7.out _ _ _ _ _ _ _ _ b6).1;have e5:=wN (KE.out _ _ _ _ b6))|(go_at_call 25;(with_reducible refine Ad e5.out ?_);rintro m4 h5))
                      go_roundw
                      case rel=>exact⟨k+1,Aa,by go_num,wN h5⟩
                      case measure=>simp[intOf];omega
                   . obtain rfl:O=3:=by omega
                     have k5:1<=r.size:=Aa;have NN:r.size<=200:=Aa;have qe:=DG r;have v_:∀ j x,(upd (upd T (m+1) (J ⟨3,[],[]⟩)) a (J { yd with L:=yd.L ++ [(((m+1:Nat):Int),f)] })) j=J x->1<=j/\j<48:=fun j x e=>by
                      by_cases ej:j=a
                      . omega
                      . rw[Cx _ _ ej] at e;exact Uv j x e
                     have wa:(upd (upd T (m+1) (J ⟨3,[],[]⟩)) a (J { yd with L:=yd.L ++ [(((m+1:Nat):Int),f)] })) (m+1)=J ⟨3,[],[]⟩:=(by rw[Cx _ _ Aa,Dy]);have uE:(upd (upd (upd T (m+1) (J ⟨3,[],[]⟩)) a (J { yd with L:=yd.L ++ [(((m+1:Nat):Int),f)] })) (m+1) (J { (⟨3,[],[]⟩:Nd) with tg:=Ey r }))=O3 T (m+1) a 3 f (Ey r):=(by rw[<- SV Ko gP,ZX]);have i3:Hid (∀ B D H o,TwB w bf (InT w d (G (J ⟨b,0,K⟩)) 3 bf T c (m+1) a (upd (upd T (m+1) (J ⟨3,[],[]⟩)) a (J { yd with L:=yd.L ++ [(((m+1:Nat):Int),f)] })) (c+1) 11) B bt (TC T (m+1) a 3 f) D H xb (R #[Z Y X,Z Y 3,.string f,.string r] 54 (0,0)) o->o.cell? ⟨bt,m+1,K⟩=J (G (J ⟨D (m+1),0,K⟩))):=wN fun B D H o t=>by
                      have:=t.tw.tr.cell (i:=m+1) Aa
                      rwa [Gn (show TC T (m+1) a 3 f (m+1)=J ⟨3,[],[]⟩ by unfold TC;rw[AG rfl])] at this
                     have i4:Hid (∀ B D H o,TwB w bf (InT w d (G (J ⟨b,0,K⟩)) 3 bf T c (m+1) a (upd (upd T (m+1) (J ⟨3,[],[]⟩)) a (J { yd with L:=yd.L ++ [(((m+1:Nat):Int),f)] })) (c+1) 11) B bt (O3 T (m+1) a 3 f (Ey r)) D H xb (R #[Z Y X,Z Y 3,.string f,.string r] 54 (0,0)) o->o.cell? ⟨bt,m+1,K⟩=J (G (J ⟨D (m+1),0,K⟩))):=wN fun B D H o t=>by
                      have:=t.tw.tr.cell (i:=m+1) Aa
                      rwa [Gn (show O3 T (m+1) a 3 f (Ey r) (m+1)=J ⟨3,[],Ey r⟩ by unfold O3;rw[AG rfl])] at this
                     have l0:Hid (∀ B D H o V g a4 nn c7,TwB w bf (InT w d (G (J ⟨b,0,K⟩)) 3 bf T c (m+1) a (upd (upd T (m+1) (J ⟨3,[],[]⟩)) a (J { yd with L:=yd.L ++ [(((m+1:Nat):Int),f)] })) (c+1) 11) B bt (TC T (m+1) a 3 f) D H xb (R #[Z Y X,Z Y 3,.string f,.string r] 54 (0,0)) o->C o.heap.size o V->BSl V (Aw (J ⟨g,a4,K⟩) nn c7) (Ey r)->o.heap.size<=g->M U 28 #[G (J ⟨D (m+1),0,K⟩),Z Y 0,Aw (J ⟨g,a4,K⟩) nn c7] V fun e w'=>e=z (u #[Z Y r.size,Z Y 0])/\TwB w bf (InT w d (G (J ⟨b,0,K⟩)) 3 bf T c (m+1) a (upd (upd T (m+1) (J ⟨3,[],[]⟩)) a (J { yd with L:=yd.L ++ [(((m+1:Nat):Int),f)] })) (c+1) 11) B bt (O3 T (m+1) a 3 f (Ey r)) D H xb (R #[Z Y X,Z Y 3,.string f,.string r] 54 (0,0)) w'):=wN fun B D H o V g a4 nn c7 t hV hv hg=>by
                      have k3:TC T (m+1) a 3 f (m+1)=J ⟨3,[],[]⟩:=(by unfold TC;rw[AG rfl]);have n2:=(t.tw.tr.nd (m+1) _ Aa k3).lt;have e6:=t.low (CN (c+1) 11 (upd (upd T (m+1) (J ⟨3,[],[]⟩)) a (J { yd with L:=yd.L ++ [(((m+1:Nat):Int),f)] }))) hV;refine(e6.tw.tr.write Aa k3 hv (Apt.new fun hp=>(by rcases hp with e|e <;> omega)) Aa Aa).mono fun e w' ⟨he,ht,hc⟩=>⟨by rw[he,qe],?_⟩
                      have:=e6.tree (CN (c+1) 11 (upd (upd T (m+1) (J ⟨3,[],[]⟩)) a (J { yd with L:=yd.L ++ [(((m+1:Nat):Int),f)] }))) ht hc;have e2:upd (TC T (m+1) a 3 f) (m+1) (J ⟨3,[],Ey r⟩)=O3 T (m+1) a 3 f (Ey r):=ZX
                      rwa [e2] at this
                     have l1:Hid (∀ B T1 D H o V g a4 nn c7,TwB w bf (InT w d (G (J ⟨b,0,K⟩)) 3 bf T c (m+1) a (upd (upd T (m+1) (J ⟨3,[],[]⟩)) a (J { yd with L:=yd.L ++ [(((m+1:Nat):Int),f)] })) (c+1) 11) B bt T1 D H xb (R #[Z Y X,Z Y 3,.string f,.string r] 54 (0,0)) o->C o.heap.size o V->BSl V (Aw (J ⟨g,a4,K⟩) nn c7) (Ey r)->o.heap.size<=g->M U 29 #[G (J ⟨bf,0,K⟩),Z Y ((m:Int)+1),Z Y 0,Aw (J ⟨g,a4,K⟩) nn c7] V fun e w'=>e=z (u #[Z Y r.size,Z Y 0])/\∃ P',TwB w bf (InT w d (G (J ⟨b,0,K⟩)) 3 bf T c (m+1) a (upd (upd (upd T (m+1) (J ⟨3,[],[]⟩)) a (J { yd with L:=yd.L ++ [(((m+1:Nat):Int),f)] })) (m+1) (J { (⟨3,[],[]⟩:Nd) with tg:=Ey r })) (c+2) 13) P' bt T1 D H xb (R #[Z Y X,Z Y 3,.string f,.string r] 54 (0,0)) w'):=wN fun B T1 D H o V g a4 nn c7 t hV hv hg=>by
                      have e6:=t.low (CN (c+1) 11 (upd (upd T (m+1) (J ⟨3,[],[]⟩)) a (J { yd with L:=yd.L ++ [(((m+1:Nat):Int),f)] }))) hV;have:=e6.tw.ph.write v_ wa rfl rfl Aa Aa hv (Apt.new fun hp=>by have:=((CN (c+1) 11 (upd (upd T (m+1) (J ⟨3,[],[]⟩)) a (J { yd with L:=yd.L ++ [(((m+1:Nat):Int),f)] }))).lt t.tw.ph _ hp).2;omega) Aa Aa;rw[em,qe] at this;exact this.mono fun e w' ⟨he,P',hp,hc⟩=>⟨he,P',e6.fsy hp hc⟩
                     have l2:Hid (∀ B D H o,TwB w bf (InT w d (G (J ⟨b,0,K⟩)) 3 bf T c (m+1) a (upd (upd (upd T (m+1) (J ⟨3,[],[]⟩)) a (J { yd with L:=yd.L ++ [(((m+1:Nat):Int),f)] })) (m+1) (J { (⟨3,[],[]⟩:Nd) with tg:=Ey r })) (c+2) 13) B bt (O3 T (m+1) a 3 f (Ey r)) D H xb (R #[Z Y X,Z Y 3,.string f,.string r] 54 (0,0)) o->M U 25 #[(G (J ⟨b,0,K⟩)),AY AQ] o fun e w'=>e=z (Z Y 0)/\BuI w d (G (J ⟨b,0,K⟩)) bf bt (k+1) w'):=wN fun B D H o t=>t.tw.ph.keep.mono fun e w' ⟨he,P',hp,hc⟩=>by
                      have hq:=(t.fsy hp hc).tw;rw[uE] at hq;exact⟨he,P',O3 T (m+1) a 3 f (Ey r),D,H,m+1,c+2,hq,pU (kd:=3) (s:=f) ho hm Aa Ko JH (by have:=hu.ln a yd Ko;omega) Aa ⟨Aa,Mr r,fun _=>Aa,fun _=>rfl⟩,li (kd:=3) (s:=f) hu ho hm Ko W6 Ro,SY (kd:=3) (s:=f) hm (by rw[Ko];rfl),Aa,Aa,Aa,Aa⟩
                     have z1:(0:Int)<=(m:Int)+1:=Aa;have z2:(m:Int)+1<48:=Aa;have z3:((m:Int)+1).toNat=m+1:=Aa;clear hT ho hu hm hB hC a5 JH W6 Ro d9 e7 qC qw c9 HI c8 hr Ul CI Ko ZR O6 Uv pC Up CK em e0 a9 c1 h0 v_ wa uE k5 NN qe CN
                     as_aux_lemma=>
                      go_upto_region 8 with(fail)
                      rw[H1.out,<- a6.out]
                      go_upto_region 10 with(first|(go_at_call 20;(with_reducible refine Ad (b9.out _) ?_);rintro w4 rfl))
                      go_region_held3 (fun V=>V.cell? ⟨bt,a,K⟩=J (G (J ⟨A a,0,K⟩))/\V.cell? ⟨A a,4,K⟩=J v4/\V.cell? ⟨xb,2,K⟩=J (.string f)/\V.cell? ⟨bf,0,K⟩=J (G (J ⟨b,0,K⟩))) (first|exact g9|exact f0.out) (first|(go_at_call 21;(with_reducible refine Ad e3.out ?_);rintro w5 rfl)|(go_at_call 22;(with_reducible refine Ad f1.out ?_);rintro w9 ⟨d4,B,t⟩;obtain⟨d1,d2,d3⟩:=e9.out _ _ t;have g9:=And.intro d1 (And.intro d4 (And.intro d2 d3))))
                      obtain⟨d5,d6,d7,d8⟩:=b8.out _ _ _ _ _ t;have d0:=wN (f9.out _ _ t)
                      go_upto_region 20 with(first|(go_at_call 23;(with_reducible refine Ad d0.out ?_);rintro h8 ⟨D,H,F5⟩;obtain⟨f5,f6,f7,f8⟩:=b8.out _ _ _ _ _ F5;have a8:=wN (g0.out _ _ _ _ _ F5))|(go_at_call 24;(with_reducible refine Ad a8.out ?_);rintro i0 ⟨j9,lS⟩;obtain⟨g5,g6,g7,g8⟩:=(b7.out _ _ _ _ _ _ lS).1;have c6:=wN (g2.out _ _ _ _ _ lS))|(go_at_call 13;(with_reducible refine Ad c6.out ?_);rintro i1 b5;obtain⟨i5,i6,i7,i8⟩:=(b7.out _ _ _ _ _ _ b5).1;have c3:=wN (b7.out _ _ _ _ _ _ b5).2)|(go_at_call 26;(with_reducible refine Ad (g3.out _ _ _ _ _ (c3.out _ (AF _ _))) ?_);rintro k7 ⟨k0,WR⟩;obtain⟨j5,j6,j7,j8⟩:=(a7.out _ _ _ _ _ _ _ _ WR).1;have c5:=wN (g4.out _ _ _ _ _ WR))|(go_at_call 27;(with_reducible refine Ad c5.out ?_);rintro b4 ⟨k1,b6⟩;obtain⟨l5,l6,l7,l8⟩:=(a7.out _ _ _ _ _ _ _ _ b6).1;have n3:=i3.out _ _ _ _ b6;have f3:=wN (a7.out _ _ _ _ _ _ _ _ b6).2))
                      have e4:=wN (fun V (hV:C b4.heap.size b4 V)=>(show V.cell? ⟨bt,m+1,K⟩=J (G (J ⟨D (m+1),0,K⟩))/\V.cell? ⟨xb,3,K⟩=J (.string r) from⟨i3.out _ _ _ _ (f3.out _ hV),(a7.out _ _ _ _ _ _ _ _ (f3.out _ hV)).1.2.2.1⟩));have m8:=fun V=>ij V r
                      have k6:=e4.out _ (AP _ b4).drew;have f4:=e4.out _ (jF r (AP _ b4).drew);have KW:=wN (l0.out _ _ _ _ (sS b4.drew r) b4.heap.size 0 r.size (wd b4.drew r) b6 (jF r (AP _ b4).drew) (Yn b4.drew r).2 (AE _))
                      go_region_held (fun V=>V.cell? ⟨bt,m+1,K⟩=J (G (J ⟨D (m+1),0,K⟩))/\V.cell? ⟨xb,3,K⟩=J (.string r)) (first|exact m3|exact k6|exact f4) (first|(go_at_call 28;(with_reducible refine Ad KW.out ?_);rintro e8 f2;have m3:=And.intro (i4.out _ _ _ _ f2) (a7.out _ _ _ _ _ _ _ _ f2).1.2.2.1))
                      obtain⟨q1,q2,q3,q4⟩:=(a7.out _ _ _ _ _ _ _ _ f2).1;have KF:=wN (l1.out _ _ _ _ _ (sS e8 r) e8.heap.size 0 r.size (wd e8 r) f2 (jF r (AP _ e8)) (Yn e8 r).2 (AE _));clear KW k6 f4 e4
                      go_wp2_with (first|(go_at_call 29;(with_reducible refine Ad KF.out ?_);rintro n4 ⟨m9,k2⟩;obtain⟨q5,q6,q7,q8⟩:=(a7.out _ _ _ _ _ _ _ _ k2).1;have j1:=wN (l2.out _ _ _ _ k2))|(go_at_call 25;(with_reducible refine Ad j1.out ?_);rintro n5 l3))
                      go_roundw
                      case rel=>exact⟨k+1,Aa,by go_num,wN l3⟩
                      case measure=>simp[intOf];omega
     . rcases ho.kd a yd Ko with Oo|Oo|Oo
       . replace c0:W1.cell? ⟨A a,0,K⟩=J (Z Y 1):=by rw[c0,Oo];rfl
         clear Ko hT ho hu hm hB hC a5 JH Oo
         as_aux_lemma=>
          go_upto_region 8 with(fail)
          rw[H1.out,<- a6.out];go_wp2;go_roundw
          case rel=>exact⟨k+1,Aa,by go_num,c2⟩
          case measure=>simp[intOf];omega
       . exact absurd Oo JH
       . replace c0:W1.cell? ⟨A a,0,K⟩=J (Z Y 3):=by rw[c0,Oo];rfl
         clear Ko hT ho hu hm hB hC a5 JH Oo
         as_aux_lemma=>
          go_upto_region 8 with(fail)
          rw[H1.out,<- a6.out];go_wp2;go_roundw
          case rel=>exact⟨k+1,Aa,by go_num,c2⟩
          case measure=>simp[intOf];omega
  . obtain rfl:k=n:=by omega
    have HF:=wN HI.out;clear HI c9;go_wp2;go_ret2;exact⟨bf,bt,d,_,rfl,k,HF.out⟩
def p_{w:E}{v:I}{S:List Th}(h:ThS w v S):∃ a cap,v=Aw a S.length cap:=by
 obtain⟨a,cap,e,_⟩:=h;exact⟨a,cap,e⟩
def ThS.below{w w':E}{v:I}{S:List Th}(h:ThS w v S)(hb:C w.heap.size w w'):ThS w' v S:=by
 obtain⟨d,a,e,k⟩:=h;refine⟨d,a,e,fun j h=>?_⟩;obtain⟨b,c,f,i⟩:=k j h;exact⟨b,c,f,fun W g=>i W (hb.trans (g.mono hb.size))⟩
def XI{w:E}{v:I}{S:List Th}(hv:ThS w v S)(k:S.length<=60):M U 10 #[v] w fun e w'=>∃ b f T A Q m,e=z (u #[G (J ⟨b,0,K⟩),G (J ⟨f,0,K⟩)])/\C w.heap.size w w'/\FsW w' b T/\TreH w' w.heap.size f T A Q/\OkT T/\OkU T m:=by
 refine(Yo hv k).mono ?_;rintro e w' ⟨b,f,d,p,he,i,P,T,A,Q,m,c,h,j,l,_⟩;have g:C w.heap.size w w':=by obtain⟨X,N,O,F,a,_⟩:=h.ph;exact a.be
 exact⟨b,f,T,A,Q,m,he,g,h.ph.fsw j,h.tr,j,l⟩
end
section
open Go.RowKit Go.ChangeShapes Go.WideShapes
def mv:U.cellsOf 54=4:=Ac
section
variable {H:Type}{enc:Cn × I->H}{W:E}{base:Nat}{spare:Nat->Bool}{Rq:Bool}
def iu{cs:List I}{m:Nat}{y:DataW H × List MemPlace}(u:cs.length=4)(v:DataW.trod enc U W base spare Rq m 54 cs=J y):∃ o:Th,cs=[.int Y o.1,.int Y o.2.1,.string o.2.2.1,.string o.2.2.2]:=by
 match cs,u with
 |[c0,c1,c2,c3],_=>
  obtain⟨w,n,_,_,k,f,d⟩:=DataW.trod_struct underlying54 v
  match w,f with
  |[y0,y1,y2,y3],_=>
   have l:DataW.trod enc U W base spare Rq n 3 [c0]=J y0:=by
    have c:DataW.trod enc U W base spare Rq n 3 (List.take (U.cellsOf 3) (List.drop 0 [c0,c1,c2,c3]))=J y0:=d 0 _ rfl;rw[RA] at c;exact c
   have p:DataW.trod enc U W base spare Rq n 3 [c1]=J y1:=by
    have c:DataW.trod enc U W base spare Rq n 3 (List.take (U.cellsOf 3) (List.drop 1 [c0,c1,c2,c3]))=J y1:=d 1 _ rfl;rw[RA] at c;exact c
   have q:DataW.trod enc U W base spare Rq n 9 [c2]=J y2:=by
    have c:DataW.trod enc U W base spare Rq n 9 (List.take (U.cellsOf 9) (List.drop 2 [c0,c1,c2,c3]))=J y2:=d 2 _ rfl;rw[So] at c;exact c
   have r:DataW.trod enc U W base spare Rq n 9 [c3]=J y3:=by
    have c:DataW.trod enc U W base spare Rq n 9 (List.take (U.cellsOf 9) (List.drop 3 [c0,c1,c2,c3]))=J y3:=d 3 _ rfl;rw[So] at c;exact c
   obtain⟨a,g,_,_⟩:=DataW.trod_int underlying3 l;obtain⟨b,h,_,_⟩:=DataW.trod_int underlying3 p;obtain⟨s,i,_,_⟩:=DataW.trod_string underlying9 q;obtain⟨t,j,_,_⟩:=DataW.trod_string underlying9 r;simp only[List.cons.injEq,and_true] at g h i j;exact⟨(a,b,s,t),by rw[g,h,i,j]⟩
def ths_open{v:I}{d:DataW H}{p:List MemPlace}{r:Reach}{b0:Nat}(hv:I.okWide U W r b0 29 v)(h:DataW.Trod enc U W base spare Rq 29 v d p):∃ S,ThS W v S:=by
 obtain⟨a0,c,u,rfl⟩:=okWide_slice underlying29 hv;obtain⟨M,X⟩:=h;rcases Go.Deep.open_slice underlying29 X with⟨t,_⟩| ⟨a,a2,R,m,n,D,Pl,t,_,hl,hm,C,_,Z⟩
 . simp[I.cells] at t
   obtain⟨rfl,rfl,rfl⟩:=t;exact⟨[],K,0,rfl,fun j y=>absurd y (Bm j)⟩
 . simp[I.cells] at t
   obtain⟨rfl,rfl,rfl⟩:=t;have a1:c<=m:=by rw[C];split <;> omega
   have B:∀ i,i<c->∃ o:Th,∀ (j:Nat) v,([.int Y o.1,.int Y o.2.1,.string o.2.2.1,.string o.2.2.2]:List I)[j]? =J v->W.cell? (a.add (i*4+j))=J v:=fun i g=>by
    obtain⟨T,N,ht⟩:=Z i Aa;rw[mv] at N;obtain⟨_,A,P⟩:=E.cells?_some N;obtain⟨o,rfl⟩:=iu A ht;refine⟨o,fun j v y=>?_⟩;have th:j<4:=(Bo.1 y).1;have:=P j th;rw[y] at this;rw[<- Go.Deep.add_add];exact this
   obtain⟨f,l⟩:=Go.Deep.choose_lt B;have w:∀ i,i<c->((BE c).map f).getD i default=f i:=fun i V=>by simp[V]
   obtain⟨b,k,s⟩:=a;refine⟨(BE c).map f,J ⟨b,k,s⟩,u,Ai,fun i g=>?_⟩;have g:i<c:=by simpa using g
   have z:=l i g 0 _ rfl;have F:=l i g 1 _ rfl;have G:=l i g 2 _ rfl;have L:=l i g 3 _ rfl;have O:=l 0 Aa 0 _ rfl;have Q:s=K:=by simpa [Addr.add] using E.cell?_spot O
   clear O;subst Q;simp only[Cd] at z F G L;have q:=block_lt_of_cell z;rw[w i g];refine⟨b,k,rfl,fun W' x=>⟨?_,?_,?_,?_⟩⟩
   . rw[x.cell (p:=⟨b,k+i*4,K⟩) q];exact z
   . rw[x.cell (p:=⟨b,k+i*4+1,K⟩) q,Dw];exact F
   . rw[x.cell (p:=⟨b,k+i*4+2,K⟩) q,Dw];exact G
   . rw[x.cell (p:=⟨b,k+i*4+3,K⟩) q,Dw];exact L
end
end
end Go.Proofs.YtfpdajplfmakhaaGreatDoor
