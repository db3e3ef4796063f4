/- What the law rests on. -/
import Derived.OrdersHeld
import Derived.Laws.StructEq
import Derived.Maps.Keyed
import Derived.WideKeyEntry
import Derived.ArgAppend
import Derived.ChangeMaps5
import Derived.Maps.Own
import Derived.Maps.OwnSet
import Derived.Maps.Views
import Derived.Lib.SlKeysI
import Derived.Lib.SlMapMerge
import Derived.Shelf.SlIterI.Nil
import Derived.Shelf.SlMaps.Copy
import Derived.Shelf.SortM.Plain
import Derived.Shelf.SortM.SortNone
import Derived.Shelf.SlGeneric
import Derived.Test.YtfpdajplfmakhaaGreatDoorQD4
open Go.Value renaming int->Y,slice->Aw,pointer->Ax,tuple->AT,bool->AY,agg->BS
open Go.IntKind renaming i64->H
open Go.Proofs.Tryz renaming prog->I
open Option renaming none->u,some->V
open Go renaming World->At,Value->AA,Calls->AH,Oper->BK,wpList->Cj,TypeId->Cn
open Go.Ending renaming returned->Av
open Go.Obj renaming cells->Ay
open Go.RowKit renaming Below->AB
open List renaming replicate->AI,range->BE
open Bool renaming false->AN,true->E
open Or renaming inl->A4,inr->A8
open Go.Proofs.Tryz
namespace Go.Proofs.YtfpdajplfmakhaaGreatDoor
set_option linter.defProp false
set_option maxHeartbeats 12000000
set_option linter.unusedVariables false
set_option maxRecDepth 100000
theorem Bu:type_of% @List.not_mem_nil:=@List.not_mem_nil
theorem BL:type_of% @of_decide_eq_false:=@of_decide_eq_false
theorem CG:type_of% @List.getElem?_set_self:=@List.getElem?_set_self
theorem D4:type_of% @Prod.mk.inj:=@Prod.mk.inj
theorem Gy:type_of% @Nat.mod_eq_of_lt:=@Nat.mod_eq_of_lt
section
open Go.RowKit
def RecQ(A:List PA)(hd:Prop)(w:At)(P:Nat->Prop)(p:AA)(s:DS)(e:Ending)(w':At):Prop:=
 ∃ x,e=Av (AT #[Y .u32 x,Y H (BP A s).1])/\(∃ a,Dk w' a p (BP A s).2/\Chg P a w w')/\(hd->(BP A s).1=0->x=1)/\(0<=x/\x<4294967296)
def u32_in(x:Int):0<=IntKind.u32.wrap x/\IntKind.u32.wrap x<4294967296:=by
 have:IntKind.u32.wrap x=x%4294967296:=by simp[IntKind.wrap,IntKind.signed,IntKind.bits]
 omega
def FA(A:List PA)(s:DS):(BP A s).1=0\/(BP A s).1=2:=by
 obtain⟨_,_,_,h⟩:=H7 A s;exact h.imp (fun x=>x.1) id
def RecQ.early{A:List PA}{hd:Prop}{w W:At}{P a:Nat->Prop}{p:AA}{s:DS}(h:(BP A s).1=2)(c:Dk W a p (BP A s).2)(b:Chg P a w W):RecQ (A ++ [.f]) hd w P p s (Av (AT #[Y .u32 0,Y H 2])) W:=by
 have e:BP (A ++ [.f]) s=BP A s:=by rw[EE,AJ (by rw[h];decide)]
 unfold RecQ;rw[e,h];exact⟨0,rfl,⟨a,c,b⟩,fun _ h=>absurd h Af,Af,Af⟩
def RecQ.stop{A:List PA}{hd:Prop}{w W:At}{P a:Nat->Prop}{p:AA}{s:DS}(h:(BP A s).1=0)(b:(BP A s).2.ok=AN)(d:Dk W a p (BP A s).2.pay)(c:Chg P a w W):RecQ (A ++ [.f]) hd w P p s (Av (AT #[Y .u32 0,Y H 2])) W:=by
 unfold RecQ;rw[Sj h b];exact⟨0,rfl,⟨a,d,c⟩,fun _ h=>absurd (show(2:Int)=0 from h) Af,Af,Af⟩
def RecQ.done{A:List PA}{hd:Prop}{w W:At}{P a:Nat->Prop}{p:AA}{s:DS}{x:Int}(h:(BP A s).1=0)(b:(BP A s).2.ok=E)(g:Dk W a p (BP A s).2.flush)(d:Chg P a w W)(i:hd->x=1)(c:0<=x/\x<4294967296):RecQ (A ++ [.f]) hd w P p s (Av (AT #[Y .u32 x,Y H 0])) W:=by
 unfold RecQ;rw[GC h b];exact⟨x,rfl,⟨a,g,d⟩,fun h _=>i h,c⟩
section
variable {w:At}{P:Nat->Prop}{p:AA}{s:DS}
def RB{W:At}{v:AA}{J:Ae}(hv:BBSl W v J)(f:0<J.length):
 AH I 124 #[v] W fun e w'=>∃ y z,e=Av (AT #[Y .u32 y,AY z])/\AB W.heap.size W w'/\((∀ q N,¬ DB (J.getD 0 []) q N)->y=0):=
 (jA hv).mono fun e w' ⟨a,b⟩=>by
   rcases b with⟨q,N,d,c,he⟩| ⟨_,he⟩
   . exact⟨q,E,he,a,fun h=>absurd c (h q N)⟩
   . exact⟨0,AN,he,a,fun _=>rfl⟩
def Ud(h:Dk w P p s)(OO:64<=s.F.length)(hd:s.dn=AN)(hU:s.U.length<=900000){q:Int}{N:Ab}{D:Ae}(ht:PF s.F.length (EA s.vis) q N D):
 AH I 80 #[p] w (RecQ (Ci N D ++ [.f]) (∀ q N,¬ DB ((EA s.vis).getD 0 []) q N) w P p s):=by
 have MU:(EA s.vis).length=40:=EC (by rw[DS.vis_length];omega);obtain⟨hF,q0,q1⟩:=NB ht.1;have T:=FD (Ci N D) s;rw[Fg] at T;have JJ:=(EM hF).1;have KJ:=wN (UH h OO hd);have KS:=wN (fun W (hb:AB w.heap.size w W) v (hv:BBSl W v (EA s.vis))=>Vy (h.below hb) hv Aa ht);have Z:=wN (fun W (hb:AB w.heap.size w W) vN vD (hN:IR W 0 vN N) (hD:BBR W 0 vD D)=>TxVa.own (h.below hb) (q:=q) hN hD);have KH:=wN (fun W (hb:AB w.heap.size w W) v (hv:TxVa W P v q N D)=>RL (h.below hb) hv (by
  unfold Gb;rw[AK OO,hF,ht.2];rfl) hU)
 have KF:=wN (fun W Pk (hk:Dk W Pk p (BP (Ci N D) s).2)=>Tj hk Aa);have KQ:=wN (fun W v (hv:BBSl W v (EA s.vis))=>RB hv Aa);obtain⟨bp,rfl⟩:=h.ptr;obtain⟨J,hJ⟩:=nm (EA s.vis);rw[<- hJ] at KJ KS KQ |-
 obtain⟨HD,sg⟩:=nm ((∀ q N,¬ DB (J.getD 0 []) q N));rw[<- sg];have a3:Hid (HD->(∀ q N,¬ DB (J.getD 0 []) q N)):=wN (fun h=>by rw[sg] at h;exact h);obtain⟨A,hA⟩:=nm (Ci N D);rw[<- hA] at KF KH |-
 unfold RunQ at KH;clear h OO hd hU ht MU hF q0 q1 T JJ sg hA hJ;rcases FA A s with hr|hr
 . rw[hr] at KH
   have HR:=wN hr;clear hr;cases M:(BP A s).2.ok
   . rw[M,AJ CP,AJ CP] at KF
     have X:=wN M;clear M;go_enter func80,ntmps80
     go_wp2_with (first
      |(go_at_call 120;(with_reducible refine KJ.out.mono ?_);rintro e w1 ⟨ao,a1,rfl,G,B⟩
        have a:=wN B;have L:=wN G;clear B G)
      |(go_at_call 121;(with_reducible refine(KS.out _ a.out _ L.out.sl).mono ?_);rintro e o ⟨vN,vD,rfl,l,k,C⟩
        obtain⟨_,no,nc,rfl,_⟩:=l.isc;obtain⟨co,dc,rfl,_⟩:=k.sl.shape;have H:=AC o (Ay #[Y .u32 0,Aw u 0 0,Aw u 0 0] 215);have b:=AF o (Ay #[Y .u32 0,Aw u 0 0,Aw u 0 0] 215);have j:=wN (l.below b);have i:=wN (k.below b);have r:=wN C;generalize hnn:N.length=n at j |-
        generalize hmm:D.length=m at i |-
        clear l k hnn hmm C)
      |(with_reducible refine BO rfl 215 EH (.tmp 6) (.tmp 24) rfl o.heap.size rfl _ _ _ _ _ _ rfl rfl rfl rfl _ H ?_;intro Q d c
        have E:=b.trans (d.below (AE _));have g:=wN (r.out.trans (E.mono r.out.size));have t:=wN (a.out.trans (g.out.mono a.out.size));have x0:Q.cell? ⟨o.heap.size,0,u⟩=V (Y .u32 q):=(by rw[AD _ _ _ _ _ _ c];rfl);have x1:Q.cell? ⟨o.heap.size,1,u⟩=V (Aw no n nc):=(by rw[AD _ _ _ _ _ _ c];rfl);have x2:Q.cell? ⟨o.heap.size,2,u⟩=V (Aw co m dc):=(by rw[AD _ _ _ _ _ _ c];rfl);have O:=wN (Z.out _ t.out _ _ (j.out.wrote d H Af) (i.out.wrote d (A7 _) H Af Af));clear H b d E j i c)
      |(go_at_call 122;(with_reducible refine Ad (KH.out _ t.out _ O.out) ?_);rintro w5 ⟨P5,a_,S⟩
        have K:=wN ((Chg.of_below (P:=P) g.out).trans S);have x:=wN ((Chg.of_below (P:=P) a.out).trans K.out);have R:=wN (KF.out _ _ a_);clear x0 x1 x2 S)|(go_at_call 123;(with_reducible refine Ad R.out ?_);rintro w7 ⟨P7,a0,o_⟩))
     go_ret2;exact RecQ.stop HR.out X.out a0 (x.out.trans o_)
   . rw[M,AG rfl,AG rfl] at KF
     have X:=wN M;clear M;go_enter func80,ntmps80
     go_wp2_with (first
      |(go_at_call 120;(with_reducible refine KJ.out.mono ?_);rintro e w1 ⟨ao,a1,rfl,G,B⟩
        have a:=wN B;have L:=wN G;clear B G)
      |(go_at_call 121;(with_reducible refine(KS.out _ a.out _ L.out.sl).mono ?_);rintro e o ⟨vN,vD,rfl,l,k,C⟩
        obtain⟨_,no,nc,rfl,_⟩:=l.isc;obtain⟨co,dc,rfl,_⟩:=k.sl.shape;have H:=AC o (Ay #[Y .u32 0,Aw u 0 0,Aw u 0 0] 215);have b:=AF o (Ay #[Y .u32 0,Aw u 0 0,Aw u 0 0] 215);have j:=wN (l.below b);have i:=wN (k.below b);have r:=wN C;generalize hnn:N.length=n at j |-
        generalize hmm:D.length=m at i |-
        clear l k hnn hmm C)
      |(with_reducible refine BO rfl 215 EH (.tmp 6) (.tmp 24) rfl o.heap.size rfl _ _ _ _ _ _ rfl rfl rfl rfl _ H ?_;intro Q d c
        have E:=b.trans (d.below (AE _));have g:=wN (r.out.trans (E.mono r.out.size));have t:=wN (a.out.trans (g.out.mono a.out.size));have x0:Q.cell? ⟨o.heap.size,0,u⟩=V (Y .u32 q):=(by rw[AD _ _ _ _ _ _ c];rfl);have x1:Q.cell? ⟨o.heap.size,1,u⟩=V (Aw no n nc):=(by rw[AD _ _ _ _ _ _ c];rfl);have x2:Q.cell? ⟨o.heap.size,2,u⟩=V (Aw co m dc):=(by rw[AD _ _ _ _ _ _ c];rfl);have O:=wN (Z.out _ t.out _ _ (j.out.wrote d H Af) (i.out.wrote d (A7 _) H Af Af));clear H b d E j i c)
      |(go_at_call 122;(with_reducible refine Ad (KH.out _ t.out _ O.out) ?_);rintro w5 ⟨P5,a_,S⟩
        have K:=wN ((Chg.of_below (P:=P) g.out).trans S);have x:=wN ((Chg.of_below (P:=P) a.out).trans K.out);have R:=wN (KF.out _ _ a_);clear x0 x1 x2 S)|(go_at_call 123;(with_reducible refine Ad R.out ?_);rintro w7 ⟨P7,a0,o_⟩)|(go_at_call 124;(with_reducible refine(KQ.out _ _ (L.out.chg (K.out.trans o_)).sl).mono ?_);rintro e w8 ⟨y,z,rfl,a2,hy⟩))
     go_ret2;exact RecQ.done HR.out X.out (a0.below a2) ((x.out.trans o_).trans (Chg.of_below a2)) (fun h=>by rw[hy (a3.out h)];rfl) (u32_in (y+1))
 . rw[hr] at KH
   have HR:=wN hr;clear hr;go_enter func80,ntmps80
   go_wp2_with (first
    |(go_at_call 120;(with_reducible refine KJ.out.mono ?_);rintro e w1 ⟨ao,a1,rfl,G,B⟩
      have a:=wN B;have L:=wN G;clear B G)
    |(go_at_call 121;(with_reducible refine(KS.out _ a.out _ L.out.sl).mono ?_);rintro e o ⟨vN,vD,rfl,l,k,C⟩
      obtain⟨_,no,nc,rfl,_⟩:=l.isc;obtain⟨co,dc,rfl,_⟩:=k.sl.shape;have H:=AC o (Ay #[Y .u32 0,Aw u 0 0,Aw u 0 0] 215);have b:=AF o (Ay #[Y .u32 0,Aw u 0 0,Aw u 0 0] 215);have j:=wN (l.below b);have i:=wN (k.below b);have r:=wN C;generalize hnn:N.length=n at j |-
      generalize hmm:D.length=m at i |-
      clear l k hnn hmm C)
    |(with_reducible refine BO rfl 215 EH (.tmp 6) (.tmp 24) rfl o.heap.size rfl _ _ _ _ _ _ rfl rfl rfl rfl _ H ?_;intro Q d c
      have E:=b.trans (d.below (AE _));have g:=wN (r.out.trans (E.mono r.out.size));have t:=wN (a.out.trans (g.out.mono a.out.size));have x0:Q.cell? ⟨o.heap.size,0,u⟩=V (Y .u32 q):=(by rw[AD _ _ _ _ _ _ c];rfl);have x1:Q.cell? ⟨o.heap.size,1,u⟩=V (Aw no n nc):=(by rw[AD _ _ _ _ _ _ c];rfl);have x2:Q.cell? ⟨o.heap.size,2,u⟩=V (Aw co m dc):=(by rw[AD _ _ _ _ _ _ c];rfl);have O:=wN (Z.out _ t.out _ _ (j.out.wrote d H Af) (i.out.wrote d (A7 _) H Af Af));clear H b d E j i c)
    |(go_at_call 122;(with_reducible refine Ad (KH.out _ t.out _ O.out) ?_);rintro w5 ⟨P5,a_,S⟩
      have K:=wN ((Chg.of_below (P:=P) g.out).trans S);have x:=wN ((Chg.of_below (P:=P) a.out).trans K.out);have R:=wN (KF.out _ _ a_);clear x0 x1 x2 S))
   go_ret2;exact RecQ.early HR.out a_ x.out
def UC(h:Dk w P p s)(OO:64<=s.F.length)(hd:s.dn=AN)(hU:s.U.length<=900000)(Z:∀ q N D,¬ PF s.F.length (EA s.vis) q N D):
 AH I 80 #[p] w (RecQ ([] ++ [.f]) (∀ q N,¬ DB ((EA s.vis).getD 0 []) q N) w P p s):=by
 have MU:(EA s.vis).length=40:=EC (by rw[DS.vis_length];omega);have Q:=wN (UH h OO hd);have R:=wN (fun W (T:AB w.heap.size w W) v (V:BBSl W v (EA s.vis))=>Yf (h.below T) V Aa Z);have L:=wN (fun W (T:AB w.heap.size w W)=>Tj (h.below T) Aa);have KQ:=wN (fun W v (V:BBSl W v (EA s.vis))=>RB V Aa);obtain⟨bp,rfl⟩:=h.ptr;obtain⟨J,hJ⟩:=nm (EA s.vis);rw[<- hJ] at Q R KQ |-
 obtain⟨HD,X⟩:=nm ((∀ q N,¬ DB (J.getD 0 []) q N));rw[<- X];have O:Hid (HD->(∀ q N,¬ DB (J.getD 0 []) q N)):=wN (fun h=>by rw[X] at h;exact h);have HR:Hid ((BP [] s).1=0):=wN rfl;clear h OO hd hU Z MU X hJ;cases c:s.ok
 . rw[c,AJ CP,AJ CP] at L
   have t:Hid ((BP [] s).2.ok=AN):=wN c;clear c;go_enter func80,ntmps80
   go_wp2_with (first
    |(go_at_call 120;(with_reducible refine Q.out.mono ?_);rintro e w1 ⟨ao,S,rfl,n,j⟩
      have b:=wN j;have r:=wN n;clear j n)
    |(go_at_call 121;(with_reducible refine Ad (R.out _ b.out _ r.out.sl) ?_);rintro C k
      have H:=AC C (Ay #[Y .u32 0,Aw u 0 0,Aw u 0 0] 215);have m:=AF C (Ay #[Y .u32 0,Aw u 0 0,Aw u 0 0] 215);have d:=wN k;clear k)
    |(with_reducible refine BO rfl 215 EH (.tmp 6) (.tmp 24) rfl C.heap.size rfl _ _ _ _ _ _ rfl rfl rfl rfl _ H ?_;intro w4 o B
      have l:=m.trans (o.below (AE _));have a:=wN (d.out.trans (l.mono d.out.size));have g:=wN (b.out.trans (a.out.mono b.out.size));have G:=wN (Chg.of_below (P:=P) a.out);have i:=wN (Chg.of_below (P:=P) g.out);have x:=wN (L.out _ g.out);clear H m o l B)|(go_at_call 123;(with_reducible refine Ad x.out ?_);rintro w7 ⟨P7,A,M⟩))
   go_ret2;exact RecQ.stop HR.out t.out A (i.out.trans M)
 . rw[c,AG rfl,AG rfl] at L
   have t:Hid ((BP [] s).2.ok=E):=wN c;clear c;go_enter func80,ntmps80
   go_wp2_with (first
    |(go_at_call 120;(with_reducible refine Q.out.mono ?_);rintro e w1 ⟨ao,S,rfl,n,j⟩
      have b:=wN j;have r:=wN n;clear j n)
    |(go_at_call 121;(with_reducible refine Ad (R.out _ b.out _ r.out.sl) ?_);rintro C k
      have H:=AC C (Ay #[Y .u32 0,Aw u 0 0,Aw u 0 0] 215);have m:=AF C (Ay #[Y .u32 0,Aw u 0 0,Aw u 0 0] 215);have d:=wN k;clear k)
    |(with_reducible refine BO rfl 215 EH (.tmp 6) (.tmp 24) rfl C.heap.size rfl _ _ _ _ _ _ rfl rfl rfl rfl _ H ?_;intro w4 o B
      have l:=m.trans (o.below (AE _));have a:=wN (d.out.trans (l.mono d.out.size));have g:=wN (b.out.trans (a.out.mono b.out.size));have G:=wN (Chg.of_below (P:=P) a.out);have i:=wN (Chg.of_below (P:=P) g.out);have x:=wN (L.out _ g.out);clear H m o l B)|(go_at_call 123;(with_reducible refine Ad x.out ?_);rintro w7 ⟨P7,A,M⟩)|(go_at_call 124;(with_reducible refine(KQ.out _ _ (r.out.chg (G.out.trans M)).sl).mono ?_);rintro e w8 ⟨y,z,rfl,K,hy⟩))
   go_ret2;exact RecQ.done HR.out t.out (A.below K) ((i.out.trans M).trans (Chg.of_below K)) (fun h=>by rw[hy (O.out h)];rfl) (u32_in (y+1))
end
def nG(N:Ab):Bool:=(BE N.length).any fun k=>decide (3<=N.getD k 0) && decide (N.getD k 0<43)
def aA(N:Ab):nG N=AN ↔ ∀ k,k<N.length->¬ (3<=N.getD k 0/\N.getD k 0<43):=by
 unfold nG;rw[List.any_eq_false];constructor
 . intro h k a b
   exact h k (Bq.2 a) (by rw[A0,Bh,Bh];exact b)
 . intro h k a
   have:=h k (Bq.1 a);simp only[A0,Bh];exact this
def BBR.row{w:At}{B g n cap:Nat}{L:Ae}(h:BBR w B (Aw (V ⟨g,0,u⟩) n cap) L):∃ cur:Array AA,w.heap[g]? =V (Ay cur 77 (0,0))/\L.length<=cur.size/\B<=g:=by
 obtain⟨q,m,o,i⟩:=h;rcases i.2 with⟨a,_⟩| ⟨c,b,cur,a,d,f,j,k,l,p⟩
 . simp at a
 . obtain rfl:g=c:=by have:=Bc (Be a).1;injection this
   exact⟨cur,f,Aa,d⟩
def BBR.set{w:At}{B g n cap:Nat}{L:Ae}(h:BBR w B (Aw (V ⟨g,0,u⟩) n cap) L){x:Nat}(C:x<L.length){y:AA}{l:Ab}(I:BElt w B y l):BBR (w.setCell ⟨g,x,u⟩ y) B (Aw (V ⟨g,0,u⟩) n cap) (L.set x l):=by
 obtain⟨o,z,G,A⟩:=h;rcases A.2 with⟨m,_⟩| ⟨d,f,c,m,s,t,D,E,F,H⟩
 . simp at m
 . obtain rfl:g=d:=by have:=Bc (Be m).1;injection this
   have k:=Wrote.setCell w g x y;have i:w.grownBy (w.setCell ⟨g,x,u⟩ y) (V g):=
    ⟨k.1,k.2.1,k.2.2.1,by rw[k.2.2.2.1];exact AE _,fun b J r=>k.2.2.2.2 b (fun e=>r (by rw[e]))⟩
   have a:∀ d,V g=V d->B<=d/\∃ c,w.heap[d]? =V (Ay c 77 (0,0)):=fun d e=>by
    obtain rfl:=Bc e;exact⟨s,_,t⟩
   refine⟨o.set x y,by rw[AR,AR];exact z,fun j v=>?_,by rw[AR,AR];exact A.1,A8 ⟨g,f,c.setIfInBounds x y,by rw[AR];exact m,s,?_,by rw[AR];exact D,E,by rw[Array.size_setIfInBounds];exact F,?_⟩⟩
   . rw[AR] at v
     by_cases e:j=x
     . subst e
       have p:(o.set j y).getD j undef=y:=(by simp[z,C]);have q:(L.set j l).getD j []=l:=(by simp[C]);rw[p,q];exact I.grown a i
     . have p:(o.set x y).getD j undef=o.getD j undef:=by rw[Az,BB Aa,<- Az]
       have q:(L.set x l).getD j []=L.getD j []:=(by rw[Az,BB Aa,<- Az]);rw[p,q];exact(G j v).grown a i
   . exact Bk w g x _ _ _ t
   . rw[AR,Array.toList_setIfInBounds,List.take_set,H]
def rf{N:Ab}{D:Ae}{z n:Nat}(b:Gc N D=E)(c:Ow z N=E)(d:nG N=AN)(i:z<=n):cC n N:=fun j a=>by
 have f:=(EM b).2.2 j a;have g:=(Ki _ _).1 c j a;have h:=(aA N).1 d j a;unfold D7;omega
section
variable {q1 q2:Int}{N1 N2:Ab}{D1 D2 Z G:Ae}{er:Int}
def Kx{s:DS}(h:s.U=[]):s.vis=s.F:=by unfold DS.vis;rw[h];rfl
end
def eqO(A B:Ae):Prop:=A.length=B.length/\∀ i,D7 i->i<B.length->A.getD i []=B.getD i []
def eqO.refl(A:Ae):eqO A A:=⟨rfl,fun _ _ _=>rfl⟩
def eqO.trans{A B C:Ae}(h:eqO A B)(k:eqO B C):eqO A C:=⟨h.1.trans k.1,fun i b a=>(h.2 i b (by rw[k.1];exact a)).trans (k.2 i b a)⟩
def okT(n:Nat)(N:Ab)(D:Ae):Prop:=Gc N D=E/\Ow n N=E/\nG N=AN
def okT.far{n:Nat}{N:Ab}{D:Ae}(h:okT n N D):cC n N:=rf h.1 h.2.1 h.2.2 (AE _)
def okT.takes{n:Nat}{N:Ab}{D:Ae}(h:okT n N D)(a:64<=n):Gb n N D=E:=by
 unfold Gb;rw[AK a,h.1,h.2.1];rfl
def U4{N:Ab}{D A B:Ae}(b:Gc N D=E)(h:eqO A B):eqO (Cl (Cq N D) A) (Cl (Cq N D) B):=by
 refine⟨by rw[Ca,Ca];exact h.1,fun i c a=>?_⟩;rw[Ca] at a;exact Vd b A B h.1 i a (A4 (h.2 i c a))
def Jst(n:Nat)(F G:Ae):Prop:=
 F.length=n/\G.length=n/\((∃ q N D Z,okT n N D/\InvT F q N D Z/\eqO (Cl (Cq N D) Z) G)\/InvN F G)
def Lst(n:Nat)(s:DS)(G:Ae):Prop:=
 s.F.length=n/\eqO s.vis G/\((∃ q N D Z,okT n N D/\InvT s.F q N D Z/\(∀ x∈s.U,x∈Cq N D)/\eqO (Cl (Cq N D) Z) G)\/(InvN s.F G/\s.U=[]))
def InvN.toO{F G a:Ae}(h:InvN F G)(k:eqO G a):InvN F a:=⟨h.1.trans k.1,h.2.1,fun i c b=>(h.2.2 i c (by rw[k.1];exact b)).trans (k.2 i c b)⟩
def Jst.toO{n:Nat}{F G d:Ae}(h:Jst n F G)(k:eqO G d):Jst n F d:=by
 obtain⟨f,g,i⟩:=h;refine⟨f,k.1.symm.trans g,i.imp (fun⟨q,N,D,Z,a,b,c⟩=>⟨q,N,D,Z,a,b,c.trans k⟩) (fun h=>h.toO k)⟩
def Lst.toO{n:Nat}{s:DS}{G d:Ae}(h:Lst n s G)(k:eqO G d):Lst n s d:=by
 obtain⟨f,g,i⟩:=h;exact⟨f,g.trans k,i.imp (fun⟨q,N,D,Z,a,b,c,e⟩=>⟨q,N,D,Z,a,b,c,e.trans k⟩) (fun h=>⟨h.1.toO k,h.2⟩)⟩
def Lst.glen{n:Nat}{s:DS}{G:Ae}(h:Lst n s G):G.length=n:=by rw[<- h.2.1.1,DS.vis_length,h.1]
def Lst.pay{n:Nat}{s:DS}{G:Ae}(h:Lst n s G):Lst n s.pay G:=h
def Lst.crash{n:Nat}{s:DS}{G:Ae}(h:Lst n s G)(k:43<=n)(kp:Nat->Bool):Jst n (Cl (DX kp s.U) s.F) G:=by
 have g:=h.glen;obtain⟨d,l,f⟩:=h;refine⟨by rw[Ca];exact d,g,?_⟩;rcases f with⟨q,N,D,Z,a,b,c,e⟩| ⟨a,b⟩
 . have j:Z.length=n:=b.1.symm.trans d
   exact A4 ⟨q,N,D,Z,a,b.home a.1 (by rw[j];exact a.far) Aa fun x i=>c x (Hj i),e⟩
 . rw[b]
   exact A8 a
def Zi{q2:Int}{u:Ab}{t G:Ae}(hG:43<=G.length){W:List (Nat × Ab)}(R:ry q2 u t W)(o7:Gc u t=E)(sa:0<=q2/\q2<4294967296)(s:DS)(hs:InvN s.F G)(hU:s.U=[])(kp:Nat->Bool):
 let r:=BP (Dq q2 W) s
 (InvN (Cl (DX kp r.2.U) r.2.F) G/\r.1=2\/InvT (Cl (DX kp r.2.U) r.2.F) q2 u t G)/\
   (r.1=0->r.2.U=[]/\InvT r.2.F q2 u t G/\∀ i,D7 i->i<G.length->r.2.F.getD i []=G.getD i []):=by
 intro r;obtain⟨k,hk,Z,hr⟩:=H7 (Dq q2 W) s;have g:r.2.F=(F0 ((Dq q2 W).take k) s.fuP).1:=BF Prod.fst Z;have d:r.2.U=(F0 ((Dq q2 W).take k) s.fuP).2:=BF Prod.snd Z;have a0:(Dq q2 W).length=6+W.length:=by simp[Dq];omega
 have aZ:=hs.1;obtain⟨o,mc⟩:=nm s.F;have L:s.fuP=(o,[]):=by rw[mc,<- hU];rfl
 have l:InvN o G:=by rw[mc];exact hs
 rw[L] at g d;obtain⟨p,K⟩:=nm (o.set 42 z256);have o9:o.length=G.length:=l.1;have N:p.length=G.length:=by rw[K,AR,o9]
 have m:∀ i,D7 i->42≠i:=fun i c e=>by rcases c with h|h <;> omega
 have B:InvN p G:=⟨N,by rw[K];exact MF _ _ _ Aa,fun i c D=>by rw[K,F3 _ _ _ _ (m i c)];exact l.2.2 i c D⟩;have ut:∀ X,(∀ x∈X,x∈W)->InvN (Cl X p) G:=fun X hX=>by
  refine⟨by rw[Ca,N],?_,fun i c D=>?_⟩
  . rw[Do X p 42 fun x H e=>by have:=(R.1 x (hX x H)).2;omega];exact B.2.1
  . rw[Do X p i fun x H e=>by have:=R.1 x (hX x H);rcases c with h|h <;> omega]
    exact B.2.2 i c D
 obtain⟨I,v⟩:=nm (Cl W p);have sc:I.length=G.length:=by rw[v,Ca,N]
 have C:InvN I G:=by rw[v];exact ut W fun x H=>H
 obtain⟨J,z⟩:=nm (I.set 42 (BV (DZ q2)));have sd:J.length=G.length:=by rw[z,AR,sc]
 obtain⟨hd,S⟩:=R.2 p Aa;have JJ:=(EM o7).1;have Q:Io (EA J) q2 u t:=by
  refine Vo Aa o7 sa ?_ (fun j T=>?_) ?_
  . rw[z,F3 _ _ _ _ Aa,v];exact hd
  . rw[z,F3 _ _ _ _ Aa,v];exact S j T
  . rw[z];exact MF _ _ _ Aa
 have lD:∀ i,D7 i->i<G.length->J.getD i []=G.getD i []:=fun i c D=>by rw[z,F3 _ _ _ _ (m i c)];exact C.2.2 i c D
 have Y:InvT J q2 u t G:=⟨sd,Q,fun i c D=>A4 (lD i c D)⟩;have M:F0 [.f,.w 42 z256,.f] (o,[])=(p,[]):=by
  show(Cl ([] ++ [(42,z256)]) (Cl [] o),([]:List (Nat × Ab)))=(p,[])
  rw[K];rfl
 have q:k=(Dq q2 W).length->r.2.F=J/\r.2.U=[]:=fun e=>by
  rw[g,d,e,BZ];unfold Dq;rw[Ct,Ct,Gg,M];show(Cl ([] ++ [(42,BV (DZ q2))]) (Cl ([] ++ W) p))=J/\_
  rw[z,v];exact⟨rfl,rfl⟩
 refine⟨?_,fun h0=>?_⟩
 . have Lv:k=0\/k=1\/k=2\/(3<=k/\k<=3+W.length)\/k=4+W.length\/k=5+W.length\/k=6+W.length:=by omega
   have A:k≠(Dq q2 W).length->r.1=2:=fun V=>by
    rcases hr with⟨_,h⟩|h
    . exact absurd h V
    . exact h
   have n:∀ j,(Dq q2 W).take (3+j)=([PA.f,PA.w 42 z256,PA.f]:List PA) ++ ((W.map fun y:Nat × Ab=>PA.w y.1 y.2) ++ [PA.f,PA.w 42 (BV (DZ q2)),PA.f]).take j:=fun j=>by
    unfold Dq;rw[Bj];exact DL (l₁:=([PA.f,PA.w 42 z256,PA.f]:List PA)) j
   rcases Lv with rfl|rfl|rfl| ⟨ha,hb⟩|rfl|rfl|rfl
   . have a:r.2.F=o:=g
     have b:r.2.U=[]:=d;rw[a,b];exact A4 ⟨l,A Aa⟩
   . have a:r.2.F=o:=g
     have b:r.2.U=[]:=d;rw[a,b];exact A4 ⟨l,A Aa⟩
   . have a:r.2.F=o:=g
     have b:r.2.U=[(42,z256)]:=d;rw[a,b];rcases La kp (42,z256) with e|e
     . rw[e];exact A4 ⟨l,A Aa⟩
     . rw[e]
       refine A4 ⟨?_,A Aa⟩;show InvN (o.set 42 z256) G
       rw[<- K];exact B
   . obtain⟨j,rfl⟩:∃ j,k=3+j:=⟨k-3,Aa⟩
     have T:j<=W.length:=Aa;rw[n,Dr (by simpa using T),<- List.map_take,Ct,M,Gg] at g d;rw[g,d];refine A4 ⟨ut _ fun x H=>?_,A Aa⟩;have:=Hj H;rw[List.nil_append] at this;exact DE this
   . have O:(Dq q2 W).take (4+W.length)=[.f,.w 42 z256,.f] ++ ((W.map fun y=>PA.w y.1 y.2) ++ [.f]):=by
      rw[show 4+W.length=3+(W.length+1) from Aa,n];congr 1;rw[show W.length+1=(W.map fun y=>PA.w y.1 y.2).length+1 by simp,DL];rfl
     rw[O,Ct,Ct,M,Gg] at g d;have a:r.2.F=I:=(by rw[v];exact g);have b:r.2.U=[]:=d;rw[a,b];exact A4 ⟨C,A Aa⟩
   . have O:(Dq q2 W).take (5+W.length)=[.f,.w 42 z256,.f] ++ ((W.map fun y=>PA.w y.1 y.2) ++ [.f,.w 42 (BV (DZ q2))]):=by
      rw[show 5+W.length=3+(W.length+2) from Aa,n];congr 1;rw[show W.length+2=(W.map fun y=>PA.w y.1 y.2).length+2 by simp,DL];rfl
     rw[O,Ct,Ct,M,Gg] at g d;have a:r.2.F=I:=(by rw[v];exact g);have b:r.2.U=[(42,BV (DZ q2))]:=d;rw[a,b];rcases La kp (42,BV (DZ q2)) with e|e
     . rw[e];exact A4 ⟨C,A Aa⟩
     . rw[e]
       refine A8 ?_;show InvT (I.set 42 (BV (DZ q2))) q2 u t G
       rw[<- z];exact Y
   . obtain⟨a,b⟩:=q Aa
     rw[a,b];exact A8 Y
 . have SE:k=(Dq q2 W).length:=by
    rcases hr with⟨_,h⟩|h
    . exact h
    . have P:(BP (Dq q2 W) s).1=0:=h0
      rw[P] at h;cases h
   obtain⟨a,b⟩:=q SE;rw[a,b];exact⟨rfl,Y,lD⟩
def Mst(n:Nat)(s:DS)(q:Int)(N:Ab)(D G:Ae):Prop:=s.U=[]/\s.F.length=n/\InvT s.F q N D G/\eqO s.F G
def Lst.write{n:Nat}{s:DS}{G:Ae}(h:Lst n s G)(M:43<=n){q:Int}{N:Ab}{D:Ae}(k:okT n N D)(H:0<=q/\q<4294967296):
 let r:=BP (Dq q (Eg q N D)) s
 (∀ d,r.1=2->Jst n (Cl (DX d r.2.U) r.2.F) G\/Jst n (Cl (DX d r.2.U) r.2.F) (Cl (Cq N D) G))/\(r.1=0->Mst n r.2 q N D G):=by
 intro r;have l:=h.glen;obtain⟨C,J,K⟩:=h;have o:r.2.F.length=n:=(FD _ s).1.trans C;have u:∀ d,(Cl (DX d r.2.U) r.2.F).length=n:=fun d=>by rw[Ca,o]
 have p:(Cl (Cq N D) G).length=n:=by rw[Ca,l]
 rcases K with⟨z,B,A,Z,a,b,c,e⟩| ⟨a,b⟩
 . have I:Z.length=n:=b.1.symm.trans C
   have L:∀ i,D7 i->i<Z.length->s.vis.getD i []=(Cl (Cq B A) Z).getD i []:=fun i j m=>by
    rw[I] at m;exact(J.2 i j Aa).trans (e.2 i j Aa).symm
   have g:=fun d=>eG (q1:=z) (q2:=q) Aa (ag k.1) a.1 (by rw[I];exact a.far) k.1 H s b c L d
   refine⟨fun d w=>?_,fun v=>?_⟩
   . rcases(g d).1 with⟨f,_⟩| ⟨f,_⟩|f
     . exact A4 ⟨u d,l,A4 ⟨z,B,A,Z,a,f,e⟩⟩
     . exact A4 ⟨u d,l,A8 (f.toO e)⟩
     . exact A8 ⟨u d,p,A4 ⟨q,N,D,_,k,f,U4 k.1 e⟩⟩
   . obtain⟨f,x,y⟩:=(g fun _=>E).2 v
     have t:eqO r.2.F G:=⟨by rw[o,l],fun i j m=>(y i j Aa).trans (e.2 i j m)⟩;refine⟨f,o,⟨by rw[o,l],x.2.1,fun i j m=>A4 (t.2 i j m)⟩,t⟩
 . have g:=fun d=>Zi (q2:=q) Aa (ag k.1) k.1 H s a b d
   refine⟨fun d w=>?_,fun v=>?_⟩
   . rcases(g d).1 with⟨f,_⟩|f
     . exact A4 ⟨u d,l,A8 f⟩
     . exact A8 ⟨u d,p,A4 ⟨q,N,D,_,k,f,eqO.refl _⟩⟩
   . obtain⟨f,x,y⟩:=(g fun _=>E).2 v
     exact⟨f,o,x,⟨by rw[o,l],fun i j m=>y i j m⟩⟩
def Mst.home{n:Nat}{s:DS}{q:Int}{N:Ab}{D G:Ae}(h:Mst n s q N D G)(H:43<=n)(b:okT n N D):
 let r:=BP (Ci N D) s
 (∀ a,Jst n (Cl (DX a r.2.U) r.2.F) (Cl (Cq N D) G))/\(r.1=0->Lst n r.2 (Cl (Cq N D) G)):=by
 intro r;obtain⟨p,t,u,v⟩:=h;have w:G.length=n:=v.1.symm.trans t;have y:r.2.F.length=n:=(FD _ s).1.trans t;have i:∀ a,InvT (Cl (DX a r.2.U) r.2.F) q N D G:=fun a=>by
  have:=(PB b.1 (by rw[w];exact b.far) Aa s u (by rw[p];intro x c;cases c) AN a).1;rw[show(if (AN:Bool)=E then [PA.f] else [])=[] from rfl,Cc] at this;exact this
 refine⟨fun a=>⟨by rw[Ca,y],by rw[Ca,w],A4 ⟨q,N,D,G,b,i a,eqO.refl _⟩⟩,fun B=>?_⟩;obtain⟨k,I,j,C⟩:=H7 (Ci N D) s;have z:k=(Ci N D).length:=by
  rcases C with⟨_,h⟩|h
  . exact h
  . have g:(BP (Ci N D) s).1=0:=B
    rw[g] at h;cases h
 have l:r.2.F=(F0 ((Ci N D).take k) s.fuP).1:=BF Prod.fst j;have d:r.2.U=(F0 ((Ci N D).take k) s.fuP).2:=BF Prod.snd j;rw[z,Jg] at l d;have A:(Cq N D).take (Ci N D).length=Cq N D:=A2 (by simp[Ci]);rw[A] at d;have m:r.2.F=s.F:=l;have o:r.2.U=Cq N D:=by rw[d];show s.U ++ _=_;rw[p,List.nil_append]
 refine⟨y,?_,A4 ⟨q,N,D,G,b,by rw[m];exact u,(fun x c=>by rw[o] at c;exact c),eqO.refl _⟩⟩;show eqO (Cl r.2.U r.2.F) _
 rw[m,o];exact U4 b.1 v
def run_fu(a:PA)(s:DS):(a.run s).fu=s.fu:=by cases a <;> rfl
def OZ:∀ (A:List PA) (s:DS),(BP A s).2.fu=s.fu
 |[],s=>rfl
 |a :: A,s=>by
  rw[Et];split
  . exact(OZ A _).trans (run_fu a s)
  . rfl
def UE{w:At}{P:Nat->Prop}{p:AA}{s:DS}(h:Dk w P p s){n:Nat}{G:Ae}(OO:64<=n)(z:s.U=[])(hd:s.dn=AN)(X:Jst n s.F G):
 AH I 80 #[p] w fun e w'=>∃ x r m v,e=Av (AT #[Y .u32 x,Y H r])/\Dk w' v p m/\Chg P v w w'/\m.U.length<=1000/\m.F.length=n/\(r=0\/r=2)/\(∀ k,Jst n (m.crash k).F G)/\(r=0->m.dn=AN/\m.U=[]/\Lst n m G)/\(s.fu=AN->r=0)/\(0<=x/\x<4294967296)/\m.fu=s.fu:=by
 have a0:=X;obtain⟨j,Q,y⟩:=X;have S:=Kx z;have B:s.U.length<=900000:=by rw[z];show 0<=900000;omega
 have uy:∀ (A:List PA) (t:DS),(BP A t).1=0->t.dn=AN->(BP A t).2.dn=AN:=by
  intro A;induction A with
  |nil=>intro t _ h;exact h
  |cons a A ih=>
   intro t l te;rw[Et] at l |-
   cases g:t.ok
   . rw[g,AJ CP] at l
     exact absurd (show(2:Int)=0 from l) Af
   . rw[g,AG rfl] at l
     rw[AG rfl];refine ih _ l ?_;have:WX t.fu t.le t.dn=AN:=by
      unfold DS.ok lW at g;unfold WX
      revert g
      rw[te];cases t.fu <;> simp
     cases a <;> exact this
 rcases y with⟨q,N,D,Z,u,y,he⟩|J
 . have hz:Z.length=n:=y.1.symm.trans j
   have a4:=(EM u.1).1;have hc:∀ T,InvT (Cl (DX T (BP (Ci N D ++ [.f]) s).2.U) (BP (Ci N D ++ [.f]) s).2.F) q N D Z/\InvT (BP (Ci N D ++ [.f]) s).2.F q N D Z/\(∀ x∈(BP (Ci N D ++ [.f]) s).2.U,x∈Cq N D):=fun T=>PB u.1 (by rw[hz];exact u.far) Aa s y (by rw[z];intro x K;cases K) E T
   have c:=FD (Ci N D ++ [.f]) s;rw[AO,Fg,z] at c;have d:=fun o=>Kz (Ci N D ++ [.f]) s o hd
   refine(Ud h Aa hd B (q:=q) (N:=N) (D:=D) ⟨by rw[S];exact y.2.1,by rw[j];exact u.2.1⟩).mono ?_;rintro e w' ⟨x,rfl,⟨v,R,V⟩,_,L⟩;refine⟨x,_,_,v,rfl,R,V,by have:=c.2;simp at this;omega,c.1.trans j,FA _ _,fun k=>⟨by show(Cl _ _).length=n;rw[Ca,c.1,j],Q,A4 ⟨q,N,D,Z,u,(hc (bH k)).1,he⟩⟩,fun l=>?_,fun o=>(d o).1,L,OZ _ _⟩;obtain⟨k,a3,C,hr⟩:=H7 (Ci N D ++ [.f]) s;have SE:k=(Ci N D ++ [PA.f]).length:=by
    rcases hr with⟨_,h⟩|h
    . exact h
    . rw[l] at h;cases h
   rw[SE,BZ,Ct] at C;have O:=Jg N D (Ci N D).length s.fuP;rw[BZ] at O;have e3:(Cq N D).take (Ci N D).length=Cq N D:=A2 (by simp[Ci]);rw[e3] at O;rw[O] at C;have W:(BP (Ci N D ++ [.f]) s).2.F=Cl (s.U ++ Cq N D) s.F:=BF Prod.fst C;have M:(BP (Ci N D ++ [.f]) s).2.U=[]:=BF Prod.snd C;rw[z,List.nil_append] at W;refine⟨uy _ _ l hd,M,c.1.trans j,?_,A4 ⟨q,N,D,Z,u,(hc fun _=>E).2.1,(fun x K=>by rw[M] at K;cases K),he⟩⟩;rw[Kx M,W];exact eqO.trans ⟨by rw[Ca,Ca,j,hz],fun i ho hi=>y.done u.1 i ho (by rw[Ca] at hi;exact hi)⟩ he
 . have C3:∀ q N D,¬ PF s.F.length (EA s.vis) q N D:=fun q N D ht=>dS (by rw[DS.vis_length];omega) (by rw[S];exact J.2.1) q N D ht.1
   have b:(BP ([] ++ [.f]) s).2.F=s.F/\(BP ([] ++ [.f]) s).2.U=[]:=by
    rw[List.nil_append,Et];cases g:s.ok
    . rw[AJ CP]
      exact⟨rfl,z⟩
    . rw[AG rfl]
      exact⟨S,rfl⟩
   have d:=fun o=>Kz ([] ++ [.f]) s o hd
   refine(UC h Aa hd B C3).mono ?_;rintro e w' ⟨x,rfl,⟨v,R,V⟩,_,L⟩;refine⟨x,_,_,v,rfl,R,V,by rw[b.2];show 0<=1000;omega,by rw[b.1];exact j,FA _ _,fun k=>?_,fun l=>?_,fun o=>(d o).1,L,OZ _ _⟩
   . show Jst n (Cl (DX (bH k) _) _) G
     rw[b.1,b.2];exact⟨j,Q,A8 J⟩
   . refine⟨uy _ _ l hd,b.2,by rw[b.1];exact j,?_,A8 ⟨by rw[b.1];exact J,b.2⟩⟩
     rw[Kx b.2,b.1];exact⟨by rw[j,Q],J.2.2⟩
end
section
open Go.RowKit BM
def N7(O:Ag):∀ k j,j<k->∃ R,Em O k=Em O j ++ (B8 (O.getD j (0,0)).1 2 ++ (B8 (O.getD j (0,0)).2 2 ++ R))
 |0,j,h=>absurd h (Bm _)
 |k+1,j,h=>by
  rw[Em];rcases Nat.lt_succ_iff_lt_or_eq.1 h with h|rfl
  . obtain⟨R,e⟩:=N7 O k j h
    exact⟨R ++ (B8 (O.getD k (0,0)).1 2 ++ B8 (O.getD k (0,0)).2 2),by rw[e];simp⟩
  . exact⟨[],by simp⟩
def fE{O:Ag}(d:OwB O){k j:Nat}(f:j<k):UA (Em O k) j=O.getD j (0,0):=by
 obtain⟨R,e⟩:=N7 O k j f;have b:=d j;have g:(256:Int) ^ 2=65536:=rfl;have a:Cs (Em O k) (4*j) 2=(O.getD j (0,0)).1:=by
  rw[e,Hr _ _ _ 2 b.1.1 (4*j) (Fh O j)];omega
 have c:Cs (Em O k) (4*j+2) 2=(O.getD j (0,0)).2:=by
  rw[e,<- Bj,Hr _ _ _ 2 b.2.1 (4*j+2) (by rw[AO,Fh,Bp])];omega
 exact Prod.ext a c
def fq{O:Ag}(d:OwB O)(h:O.length=64):MB (DO O) 64=O:=by
 apply Bt (by rw[FX,h]);intro i a b;have c:i<64:=by rwa [FX] at a
 have e:=fE d (k:=64) c;simp only[MB,Cu,Co,DO,h];rw[e,Az,AX b];rfl
def FI(O:Ag)(g:Nat):Ag:=(O.drop (64*g)).take 64
def FP{O:Ag}{k g:Nat}(h:O.length=64*k)(a:g<k):(FI O g).length=64:=by
 unfold FI;rw[AV,By];omega
def Kb(O:Ag)(g:Nat){j:Nat}(a:j<64):(FI O g).getD j (0,0)=O.getD (64*g+j) (0,0):=by
 unfold FI;rw[Az,Bb,AG a,Bv,Az]
def aJ(O:Ag){n g:Nat}(o:Int × Int)(a:n / 64≠g):FI (O.set n o) g=FI O g:=by
 apply List.ext_getElem?;intro i;unfold FI;rw[Bb,Bb];split
 . rw[Bv,Bv,BB Aa]
 . rfl
def TI(O:Ag)(n:Nat)(o:Int × Int):FI (O.set n o) (n / 64)=(FI O (n / 64)).set (n%64) o:=by
 apply List.ext_getElem?;intro i;unfold FI;rw[Bb];by_cases a:i<64
 . rw[AG a,Bv]
   by_cases he:n%64=i
   . have b:64*(n / 64)+i=n:=by omega
     rw[b];by_cases c:n<O.length
     . rw[CG c,he,CG (by rw[AV,By];omega)]
     . rw[Bf (by rw[AR];omega),Bf (by rw[AR,AV,By];omega)]
   . rw[BB Aa,BB he,Bb,AG a,Bv]
 . rw[AJ a,Bf]
   rw[AR,AV];omega
structure OOk (O:Ag) (k:Nat):Prop where
 len:O.length=64*k
 k1:1<=k
 k12:k<=12
 bd:OwB O
 frm:∀ j,j<64*k->Ns O j=E
 fx:∀ j,j<64*k->decide ((O.getD j (0,0)).1=65535)=CZ (j:Int)
def OwB.set{O:Ag}(h:OwB O)(n:Nat){i j:Int}(hi:0<=i/\i<=65535)(b:0<=j/\j<=65535):OwB (O.set n (i,j)):=fun m=>by
 rw[Az];by_cases a:m=n
 . subst a
   by_cases c:m<O.length
   . rw[CG c];exact⟨hi,b⟩
   . rw[Bf (by rw[AR];omega)];decide
 . rw[BB (C0 a),<- Az];exact h m
def OOk.set{O:Ag}{k n:Nat}(h:OOk O k)(l:n<64*k)(f:CZ (n:Int)=AN){i j:Int}(hi:0<=i/\i<=65535)(c:0<=j/\j<=65535)(hf:Gu i j=E)(b:i≠65535):OOk (O.set n (i,j)) k:=by
 have d:=h.len;have e:∀ m,(O.set n (i,j)).getD m (0,0)=if m=n then (i,j) else O.getD m (0,0):=fun m=>getD_set O n m (i,j) (0,0) Aa
 refine⟨by rw[AR];exact d,h.k1,h.k12,h.bd.set n hi c,fun m a=>?_,fun m a=>?_⟩
 . unfold Ns;rw[e];split
   . exact hf
   . exact h.frm m a
 . rw[e];split
   . next g=>rw[g,f];exact AM b
   . exact h.fx m a
def OOk.gr{O:Ag}{k g:Nat}(h:OOk O k)(b:g<k):OwB (FI O g)/\FQ (FI O g)=E/\∀ j,j<64->decide (((FI O g).getD j (0,0)).1=65535)=CZ (64*(g:Int)+j):=by
 have c:=FP h.len b;refine⟨JO fun j a=>?_,?_,fun j a=>?_⟩
 . rw[Kb O g Aa];exact h.bd _
 . rw[FQ,c,(MR _ 64).2 fun j a=>?_];· rfl
   have:=h.frm (64*g+j) Aa;unfold Ns at this |-
   rw[Kb O g a];exact this
 . rw[Kb O g a,h.fx _ Aa];congr 1
def Cp(g:Nat):Nat:=if g=0 then 1 else 64*g
def Tl{g:Nat}(a:g<12):Ia (g:Int)=(Cp g:Int):=by
 unfold Ia Cp;rw[AG Aa];by_cases h:g=0
 . subst h;rfl
 . rw[AJ Aa,AJ h];omega
def Xu{g:Nat}(a:g<12):Qm (g:Int)=(Cp g:Int)+1:=by
 unfold Qm;rw[AG Aa,Tl a]
def Jl{g k:Nat}(a:g<k):Cp g+1<64*k/\D7 (Cp g)/\D7 (Cp g+1):=by
 unfold Cp D7;split <;> omega
def TQ{g m:Nat}(h:g≠m):Cp g≠Cp m/\Cp g+1≠Cp m/\Cp g≠Cp m+1:=by
 unfold Cp;split <;> split <;> omega
structure Has (G:Ae) (O:Ag) (k:Nat):Prop where
 len:G.length=64*k
 ds:∀ g,g<k->G.getD (Cp g) []=Gz (g:Int) (CY (FI O g) 64)
 ow:∀ g,g<k->G.getD (Cp g+1) []=DO (FI O g)
def putG(G:Ae)(g:Nat)(D:Ag):Ae:=(G.set (Cp g+1) (DO D)).set (Cp g) (Gz (g:Int) (CY D 64))
def Has.put{G:Ae}{O:Ag}{k n:Nat}(h:Has G O k)(i:n<64*k)(o:Int × Int):Has (putG G (n / 64) (FI (O.set n o) (n / 64))) (O.set n o) k:=by
 have c:n / 64<k:=Aa;have d:=h.len;have f:=Jl c;have e:∀ m,(putG G (n / 64) (FI (O.set n o) (n / 64))).getD m []=if m=Cp (n / 64) then Gz ((n / 64:Nat):Int) (CY (FI (O.set n o) (n / 64)) 64) else if m=Cp (n / 64)+1 then DO (FI (O.set n o) (n / 64)) else G.getD m []:=fun m=>by
  unfold putG;rw[getD_set _ _ _ _ _ (by rw[AR];omega),getD_set _ _ _ _ _ Aa]
 refine⟨by unfold putG;rw[AR,AR];exact d,fun g b=>?_,fun g b=>?_⟩
 . by_cases he:g=n / 64
   . subst he;rw[e,AG rfl]
   . have a:=TQ he
     rw[e,AJ a.1,AJ a.2.2,aJ O o (C0 he)];exact h.ds g b
 . by_cases he:g=n / 64
   . subst he;rw[e,AJ Aa,AG rfl]
   . have a:=TQ he
     rw[e,AJ a.2.1,AJ Aa,aJ O o (C0 he)];exact h.ow g b
def Vw(L:List Bool)(b:Bool):Ec (L ++ [b])=Ec L+if b then 1 else 0:=by
 unfold Ec;rw[List.filter_append];cases b <;> simp
def RD(O:Ag)(j:Nat):ES O j=!Df O j:=by
 unfold ES Df;by_cases h:(O.getD j (0,0)).1=0 <;> simp
def PN{O:Ag}{k:Nat}(h:OOk O k):∀ L,L<=64*k->Ec (CY O L)=Dz O L+fV L
 |0,_=>rfl
 |L+1,hL=>by
  have d:=PN h L Aa;have a:=h.fx L Aa;rw[Qb,Vw,d,Dz,fV,RD];cases c:CZ (L:Int)
  . cases b:Df O L <;> simp <;> omega
  . rw[c] at a
    have b:Df O L=AN:=by
     have:=Ba a;unfold Df;exact AM Aa
    rw[b];simp;omega
def mm{O:Ag}{L:Nat}(y:0<L)(a:Int):JL (CY O L) a=G4 O L (GZ L a):=by
 have s:=EL O L;obtain⟨g,b⟩:=nm (GZ L a);have z:g<L:=by rw[b];unfold GZ;split <;> omega
 have v:∀ j,j<L->(CY O L).getD j AN=!Df O j:=fun j n=>by rw[Y4 O L j n,RD]
 have o:∀ j,j<L->(CY O L).getD j AN=E->Df O j=AN:=fun j n h=>by rw[v j n] at h;simpa using h
 have t:∀ j,j<L->(CY O L).getD j AN=AN->Df O j=E:=fun j n h=>by rw[v j n] at h;simpa using h
 have e:JL (CY O L) a=if 0<=EU (CY O L) g then EU (CY O L) g else EU (CY O L) 0:=by
  unfold JL;rw[s];unfold GZ at b;by_cases m:0<=a/\a<L
  . rw[AJ (show ¬ (a<0\/(L:Int)<=a) from Aa)] at b
    rw[AG m,b]
  . rw[AG (show a<0\/(L:Int)<=a from Aa)] at b
    rw[AJ m,b];split <;> rfl
 rw[e,<- b];clear e b;rcases MS (CY O L) g with⟨q,f⟩| ⟨j,x,c,q,C,f⟩
 . rw[q,AJ Aa]
   rcases MS (CY O L) 0 with⟨r,p⟩| ⟨j,x,c,r,w,p⟩
   . rw[r,YP fun i u=>?_]
     have B:(g+i)%L<L:=JE _ y;exact o _ B (p _ (A7 _) Aa)
   . rw[s] at c f
     have A:j<g:=by
      apply Classical.byContradiction;intro D;have:=f j Aa c;rw[w] at this;cases this
     have l:(g+(L-g+j))%L=j:=by
      rw[show g+(L-g+j)=j+L from Aa,Nat.add_mod_right,Gy c]
     rw[r,Sm (k:=L-g+j) Aa (by rw[l];exact t j c w) fun i u=>?_,l];by_cases d:g+i<L
     . rw[Gy d];exact o _ d (f _ Aa d)
     . rw[show g+i=(g+i-L)+L from Aa,Nat.add_mod_right,Gy Aa]
       exact o _ Aa (p _ (A7 _) Aa)
 . rw[s] at c
   have l:(g+(j-g))%L=j:=(by rw[show g+(j-g)=j from Aa,Gy c]);rw[q,AG Aa,Sm (k:=j-g) Aa (by rw[l];exact t j c C) fun i u=>?_,l];rw[Gy Aa];exact o _ Aa (f _ Aa Aa)
end
section
open Go.RowKit
def num(L:Ab)(i:Nat):Int:=L.getD i 0
def Ig(i:Nat):Nat:=if i=1 then 1 else 2
def pos:Nat->Nat
 |0=>8
 |i+1=>pos i+Ig i
def Zf:Ab:=[97,115,104,108,97,114,32,49]
def GT(L:Ab):Nat->Ab
 |0=>Zf
 |i+1=>GT L i ++ B8 (num L i) (Ig i)
def EF(L:Ab):∀ i,(GT L i).length=pos i
 |0=>rfl
 |i+1=>by rw[GT,AO,EF L i,Bp];rfl
def ac(tg b c a:Int):Bool:=(tg==0) && ((b==0) && ((c==0) && (a==0)))
def wb(b tg a d c:Int):Bool:=C7 tg && (decide (b<tg) && (decide (b / 64<=a/\a<=tg / 64) && ((d==0) && (c==0))))
def WY(b tg c d a:Int):Bool:=C7 tg && (decide (tg<b) && ((c==0) && ((d==0) && (a==0))))
def lT(b tg c d a:Int):Bool:=(tg==0) && (decide (1<=d/\d<=47) && (decide (0<=a/\a<=b) && decide (0<=c/\c<=b)))
def rh(b st tg c d a:Int):Bool:=if st=0 then ac tg c d a else if st=1 then wb b tg c d a else if st=2 then WY b tg c d a else if st=3 then lT b tg c d a else AN
def GA(L:Ab):Bool:=rh (num L 0) (num L 1) (num L 2) (num L 3) (num L 4) (num L 5)
def Zq(L:Ab)(i:Nat):Prop:=(0<=num L (6+i)/\num L (6+i)<=num L 0-1)/\CZ (num L (6+i))=AN/\∀ k,k<i->num L (6+k)≠num L (6+i)
open Classical in
noncomputable def Lt(L:Ab):Nat->Bool
 |0=>E
 |i+1=>Lt L i && decide (Zq L i)
open Classical in
def IY(L:Ab):∀ n,Lt L n=E ↔ ∀ i,i<n->Zq L i
 |0=>⟨fun _ i h=>absurd h (Bm _),fun _=>rfl⟩
 |n+1=>by
  rw[Lt,A0,IY L n,Bh];refine⟨fun⟨a,b⟩ i hi=>?_,fun h=>⟨fun i hi=>h i Aa,h n Aa⟩⟩;by_cases e:i=n
  . rw[e];exact b
  . exact a i Aa
def Pm{L:Ab}{j:Nat}(h:Lt L j=E)(a:Zq L j):Lt L (j+1)=E:=
 (IY L (j+1)).2 fun i b=>by
   by_cases e:i=j
   . rw[e];exact a
   . exact(IY L j).1 h i Aa
noncomputable def GJ(L:Ab):Bool:=Lt L 6
noncomputable def DU(L:Ab):Bool:=C7 (num L 0) && (GA L && GJ L)
noncomputable def V7(L:Ab):Int:=if DU L=E then (if num L 1=2 then num L 2 else num L 0) else 0
def Gh(L:Ab):Ab:=BV (GT L 12)
def Pt(l:Ab):Ab:=(BE 12).map fun i=>Cs l (pos i) (Ig i)
def Hx(l:Ab):(Pt l).length=12:=by simp[Pt]
def aS(l:Ab)(i:Nat)(h:i<12):num (Pt l) i=Cs l (pos i) (Ig i):=by
 simp[num,Pt,h]
def rt(l:Ab):Prop:=Fy l/\DU (Pt (l.take 252))=E/\Gh (Pt (l.take 252))=l
def tR(l:Ab):Ab:=Pt (l.take 252)
def Np{L:Ab}(h:DU L=E):C7 (num L 0)=E/\GA L=E/\GJ L=E:=by
 simpa [DU] using h
def Ld{L:Ab}(h:GJ L=E):∀ i,i<6->Zq L i:=(IY L 6).1 h
def T8{L:Ab}(h:DU L=E):∀ i,i<12->0<=num L i/\num L i<256 ^ Ig i:=by
 obtain⟨b,a,l⟩:=Np h;have p:=Ba b;have c:num L 1=0\/num L 1=1\/num L 1=2\/num L 1=3:=by
  unfold GA rh at a;split at a
  . exact A4 ‹_›
  . split at a
    . exact A8 (A4 ‹_›)
    . split at a
      . exact A8 (A8 (A4 ‹_›))
      . split at a
        . exact A8 (A8 (A8 ‹_›))
        . cases a
 have d:∀ {t:Int},C7 t=E->0<=t/\t<=768:=fun h=>by have:=Ba h;omega
 have r:(0<=num L 2/\num L 2<=768)/\(0<=num L 3/\num L 3<=768)/\(0<=num L 4/\num L 4<=768)/\(0<=num L 5/\num L 5<=768):=by
  unfold GA rh at a;rcases c with e|e|e|e
  . rw[e] at a;simp only[if_true,ac,A0,beq_iff_eq] at a;omega
  . rw[e] at a
    simp only[show ¬ (1:Int)=0 from Af,if_false,if_true,wb,A0,beq_iff_eq,Bh] at a;have:=d a.1;omega
  . rw[e] at a
    simp only[show ¬ (2:Int)=0 from Af,show ¬ (2:Int)=1 from Af,if_false,if_true,WY,A0,beq_iff_eq,Bh] at a;have:=d a.1;omega
  . rw[e] at a
    simp only[show ¬ (3:Int)=0 from Af,show ¬ (3:Int)=1 from Af,show ¬ (3:Int)=2 from Af,if_false,if_true,lT,A0,beq_iff_eq,Bh] at a;omega
 have n:=Ld l;intro i q;have f:∀ j,j≠1->(256:Int) ^ Ig j=65536:=fun j m=>by rw[Ig,AJ m];rfl
 by_cases g:i=0
 . subst g;rw[f 0 Af];omega
 by_cases b:i=1
 . subst b;rw[show(256:Int) ^ Ig 1=256 from rfl];omega
 rw[f i b];by_cases o:i<6
 . have:i=2\/i=3\/i=4\/i=5:=by omega
   rcases this with rfl|rfl|rfl|rfl <;> omega
 . obtain⟨k,rfl⟩:∃ k,i=6+k:=⟨i-6,Aa⟩
   have:=(n k Aa).1;omega
def kY(A B:Ab)(n:Int)(k:Nat)(h:0<=n)(a:n<256 ^ k):Cs (A ++ (B8 n k ++ B)) A.length k=n:=by
 unfold Cs;rw[List.drop_left,DC (Bp n k),Ke n k h];exact DV h a
def Zg(L:Ab)(i:Nat):∀ j,i<j->∃ B,GT L j=GT L i ++ (B8 (num L i) (Ig i) ++ B):=by
 intro j;induction j with
 |zero=>intro h;omega
 |succ j ih=>
  intro h;by_cases e:i=j
  . subst e;exact⟨[],by rw[GT];simp⟩
  . obtain⟨B,a⟩:=ih Aa
    exact⟨B ++ B8 (num L j) (Ig j),by rw[GT,a];simp⟩
def Yy(L:Ab):(GT L 12).length=31:=EF L 12
def dD(c:Ab)(h:c.length<=252):(BV c).take 252=DI c:=by
 rw[BV,DC (EN c h)]
def qT{L:Ab}(h:L.length=12)(M:Ab)(a:M.length=12)(e:∀ i,i<12->num L i=num M i):L=M:=by
 apply Bt (by rw[h,a]);intro i b c;have:=e i Aa
 simpa [num,b,c] using this
def qQ{L:Ab}(f:L.length=12)(h:DU L=E):Pt ((Gh L).take 252)=L:=by
 refine qT (Hx _) _ f fun i a=>?_
 rw[aS _ _ a,Gh,dD _ (by rw[Yy];decide),DI];obtain⟨B,d⟩:=Zg L i 12 a;obtain⟨b,c⟩:=T8 h i a;rw[d,Bj,Bj,<- EF L i];exact kY _ _ _ _ b c
def nw{L:Ab}(a:L.length=12)(h:DU L=E):rt (Gh L)/\tR (Gh L)=L:=by
 have e:=qQ a h;exact⟨⟨Ji _ (by rw[Yy];decide),by rw[e];exact h,by rw[e]⟩,e⟩
def dR:∀ x∈Zf,0<=x/\x<=255:=Af
def VJ(l m n o p q r p7 s t q0 q1 q2 q3 q4 q5 q6 u v x:Int)(w:At):
 (Op.equalIn 9999 42 (BS #[Y H l,Y H m,Y H n,Y H o,Y H p,Y H q,Y H r,Y H p7,Y H s,Y H t]) (BS #[Y H q0,Y H q1,Y H q2,Y H q3,Y H q4,Y H q5,Y H q6,Y H u,Y H v,Y H x])).run I w
   =.ok (decide ([l,m,n,o,p,q,r,p7,s,t]=[q0,q1,q2,q3,q4,q5,q6,u,v,x])) w:=by
 have u3:=underlying3;have y:=isAgg3;have z:=sizeOf3;rw[show(9999:Nat)=9998+1 from rfl,Op.equalIn];simp only[Dm,Ck underlying42,Result.andThen_ok];simp only[Std.Legacy.Range.forIn_eq_forIn_range',Std.Legacy.Range.size,Nat.sub_zero,Nat.add_sub_cancel,Nat.div_one,List.range'_succ,List.range'_zero,List.forIn_cons,List.forIn_nil]
 go_simp
 by_cases a:l=q0
 case neg=>(rw [AJ a,AM a];rfl)
 rw[AG a,AK a,AS];by_cases b:m=q1
 case neg=>(rw [AJ b,AM b];rfl)
 rw[AG b,AK b,AS];by_cases c:n=q2
 case neg=>(rw [AJ c,AM c];rfl)
 rw[AG c,AK c,AS];by_cases d:o=q3
 case neg=>(rw [AJ d,AM d];rfl)
 rw[AG d,AK d,AS];by_cases f:p=q4
 case neg=>(rw [AJ f,AM f];rfl)
 rw[AG f,AK f,AS];by_cases g:q=q5
 case neg=>(rw [AJ g,AM g];rfl)
 rw[AG g,AK g,AS];by_cases h:r=q6
 case neg=>(rw [AJ h,AM h];rfl)
 rw[AG h,AK h,AS];by_cases i:p7=u
 case neg=>(rw [AJ i,AM i];rfl)
 rw[AG i,AK i,AS];by_cases j:s=v
 case neg=>(rw [AJ j,AM j];rfl)
 rw[AG j,AK j,AS];by_cases k:t=x
 . rw[AG k,AK k]
 . rw[AJ k,AM k]
def jx(kp lp q a b c d f g h p7 i j mp n o r q0 q1 q2 q3 q4 q5 q6 k l m p:Int)(w:At):
 (Op.equalIn 10000 44 (BS #[Y H kp,Y H lp,Y H q,Y H a,Y H b,Y H c,Y H d,Y H f,Y H g,Y H h,Y H p7,Y H i,Y H j,Y H mp]) (BS #[Y H n,Y H o,Y H r,Y H q0,Y H q1,Y H q2,Y H q3,Y H q4,Y H q5,Y H q6,Y H k,Y H l,Y H m,Y H p])).run I w
   =.ok (decide ([kp,lp,q,a,b,c,d,f,g,h,p7,i,j,mp]=[n,o,r,q0,q1,q2,q3,q4,q5,q6,k,l,m,p])) w:=by
 have t:=VJ a b c d f g h p7 i j q0 q1 q2 q3 q4 q5 q6 k l m;have u3:=underlying3;have s:=isAgg3;have u:=sizeOf3
 go_simp
 by_cases e:kp=n
 case neg=>(rw [AJ e,AM e];rfl)
 rw[AG e,AK e];simp only[AS];clear e;by_cases e:lp=o
 case neg=>(rw [AJ e,AM e];rfl)
 rw[AG e,AK e];simp only[AS];clear e;by_cases e:q=r
 case neg=>(rw [AJ e,AM e];rfl)
 rw[AG e,AK e];simp only[AS];clear e;by_cases e:a=q0
 case neg=>(rw [AM e];rfl)
 rw[AK e];simp only[AS];clear e;by_cases e:b=q1
 case neg=>(rw [AM e];rfl)
 rw[AK e];simp only[AS];clear e;by_cases e:c=q2
 case neg=>(rw [AM e];rfl)
 rw[AK e];simp only[AS];clear e;by_cases e:d=q3
 case neg=>(rw [AM e];rfl)
 rw[AK e];simp only[AS];clear e;by_cases e:f=q4
 case neg=>(rw [AM e];rfl)
 rw[AK e];simp only[AS];clear e;by_cases e:g=q5
 case neg=>(rw [AM e];rfl)
 rw[AK e];simp only[AS];clear e;by_cases e:h=q6
 case neg=>(rw [AM e];rfl)
 rw[AK e];simp only[AS];clear e;by_cases e:p7=k
 case neg=>(rw [AM e];rfl)
 rw[AK e];simp only[AS];clear e;by_cases e:i=l
 case neg=>(rw [AM e];rfl)
 rw[AK e];simp only[AS];clear e;by_cases e:j=m
 case neg=>(rw [AM e];rfl)
 rw[AK e];simp only[AS];clear e;by_cases e:mp=p
 . rw[AG e,AK e];rfl
 . rw[AJ e,AM e];rfl
def tE(L M:Ab)(a:L.length=14)(b:M.length=14)(w:At):(Op.equalIn 10000 44 (BS (iC L).toArray) (BS (iC M).toArray)).run I w=.ok (decide (L=M)) w:=by
 match L,a,M,b with
 |[kp,lp,sp,p0,p1,p2,p3,p4,p5,p6,p7,p8,p9,mp],_,[kq,lq,sq,q0,q1,q2,q3,q4,q5,q6,q7,q8,q9,mq],_=>exact jx kp lp sp p0 p1 p2 p3 p4 p5 p6 p7 p8 p9 mp kq lq sq q0 q1 q2 q3 q4 q5 q6 q7 q8 q9 mq w
def TJ{b:Array BK}{rest:List BK}{o:BK}{a:Act}{w:At}{Q:Exit->Act->At->Prop}(c:o.guard=u)(x y:Operand)(j:o.op=.binOp .eql 44 x y 44)
 (L M:Ab) (f:L.length=14) (g:M.length=14) (k:a.eval x=BS (iC L).toArray) (l:a.eval y=BS (iC M).toArray)
 (h:Cj I b Q rest (a.put o.dst (AY (decide (L=M)))) w):Cj I b Q (o :: rest) a w:=by
 refine CH c fun K d=>?_
 have i:I.eqGuardType I.depth 44=AN:=Ac;unfold BK.wp execOp;simp only[j,k,l,Dm,run_eqGuard_agg w _ _ _ _ _ _ i,Result.andThen_ok,run_eql_struct,tE L M f g];exact d _ _ h
def bD(kp lp q a b c d f g h p7 i j mp n o r q0 q1 q2 q3 q4 q5 q6 k l m p:Int)(w:At):
 (Op.equalIn 10000 159 (BS #[Y H kp,Y H lp,Y H q,Y H a,Y H b,Y H c,Y H d,Y H f,Y H g,Y H h,Y H p7,Y H i,Y H j,Y H mp]) (BS #[Y H n,Y H o,Y H r,Y H q0,Y H q1,Y H q2,Y H q3,Y H q4,Y H q5,Y H q6,Y H k,Y H l,Y H m,Y H p])).run I w
   =.ok (decide ([kp,lp,q,a,b,c,d,f,g,h,p7,i,j,mp]=[n,o,r,q0,q1,q2,q3,q4,q5,q6,k,l,m,p])) w:=by
 have t:=VJ a b c d f g h p7 i j q0 q1 q2 q3 q4 q5 q6 k l m;have u3:=underlying3;have s:=isAgg3;have u:=sizeOf3
 go_simp
 by_cases e:kp=n
 case neg=>(rw [AJ e,AM e];rfl)
 rw[AG e,AK e];simp only[AS];clear e;by_cases e:lp=o
 case neg=>(rw [AJ e,AM e];rfl)
 rw[AG e,AK e];simp only[AS];clear e;by_cases e:q=r
 case neg=>(rw [AJ e,AM e];rfl)
 rw[AG e,AK e];simp only[AS];clear e;by_cases e:a=q0
 case neg=>(rw [AM e];rfl)
 rw[AK e];simp only[AS];clear e;by_cases e:b=q1
 case neg=>(rw [AM e];rfl)
 rw[AK e];simp only[AS];clear e;by_cases e:c=q2
 case neg=>(rw [AM e];rfl)
 rw[AK e];simp only[AS];clear e;by_cases e:d=q3
 case neg=>(rw [AM e];rfl)
 rw[AK e];simp only[AS];clear e;by_cases e:f=q4
 case neg=>(rw [AM e];rfl)
 rw[AK e];simp only[AS];clear e;by_cases e:g=q5
 case neg=>(rw [AM e];rfl)
 rw[AK e];simp only[AS];clear e;by_cases e:h=q6
 case neg=>(rw [AM e];rfl)
 rw[AK e];simp only[AS];clear e;by_cases e:p7=k
 case neg=>(rw [AM e];rfl)
 rw[AK e];simp only[AS];clear e;by_cases e:i=l
 case neg=>(rw [AM e];rfl)
 rw[AK e];simp only[AS];clear e;by_cases e:j=m
 case neg=>(rw [AM e];rfl)
 rw[AK e];simp only[AS];clear e;by_cases e:mp=p
 . rw[AG e,AK e];rfl
 . rw[AJ e,AM e];rfl
def rE(L M:Ab)(a:L.length=14)(b:M.length=14)(w:At):(Op.equalIn 10000 159 (BS (iC L).toArray) (BS (iC M).toArray)).run I w=.ok (decide (L=M)) w:=by
 match L,a,M,b with
 |[kp,lp,sp,p0,p1,p2,p3,p4,p5,p6,p7,p8,p9,mp],_,[kq,lq,sq,q0,q1,q2,q3,q4,q5,q6,q7,q8,q9,mq],_=>exact bD kp lp sp p0 p1 p2 p3 p4 p5 p6 p7 p8 p9 mp kq lq sq q0 q1 q2 q3 q4 q5 q6 q7 q8 q9 mq w
def Re{b:Array BK}{rest:List BK}{o:BK}{a:Act}{w:At}{Q:Exit->Act->At->Prop}(c:o.guard=u)(x y:Operand)(j:o.op=.binOp .eql 159 x y 159)
 (L M:Ab) (f:L.length=14) (g:M.length=14) (k:a.eval x=BS (iC L).toArray) (l:a.eval y=BS (iC M).toArray)
 (h:Cj I b Q rest (a.put o.dst (AY (decide (L=M)))) w):Cj I b Q (o :: rest) a w:=by
 refine CH c fun K d=>?_
 have i:I.eqGuardType I.depth 159=AN:=Ac;unfold BK.wp execOp;simp only[j,k,l,Dm,run_eqGuard_agg w _ _ _ _ _ _ i,Result.andThen_ok,run_eql_struct,rE L M f g];exact d _ _ h
def eu(kd:Int):Int:=if kd=3 then 200 else 35328
def zeroI:Ab:=[0,0,0,0,0,0,0,0,0,0,0,0,0,0]
def Md(kd ln sz mp:Int)(D:Ab):Bool:=decide (1<=kd/\kd<=3) && (decide (0<=ln/\ln<=200) && (decide (0<=sz/\sz<=eu kd) && (FN D && Ub mp)))
def Ee(L:Ab):Bool:=if L.getD 0 0=0 then decide (L=zeroI) else Md (L.getD 0 0) (L.getD 1 0) (L.getD 2 0) (L.getD 13 0) ((L.drop 3).take 10)
def Tt(kd:Int)(h:1<=kd/\kd<=3)(w:At):AH I 88 #[Y H kd] w fun e w'=>e=Av (AT #[Y H (eu kd),AY E])/\w=w':=by
 have:kd=1\/kd=2\/kd=3:=Aa;rcases this with rfl|rfl|rfl
 all_goals
  clear h;go_enter func88,ntmps88;go_wp2;go_ret2;exact⟨rfl,rfl⟩
def VU(kd:Int)(h:¬ (1<=kd/\kd<=3))(w:At):AH I 88 #[Y H kd] w fun e w'=>e=Av (AT #[Y H 0,AY AN])/\w=w':=by
 have a:(kd==1)=AN:=Ak;have b:(kd==2)=AN:=Ak;have c:(kd==3)=AN:=Ak;clear h;go_enter func88,ntmps88;go_wp2;go_ret2;exact⟨rfl,rfl⟩
def XF(kd ln sz a b c d f g i j k l mp:Int)(h:kd=0)(w:At):AH I 47 #[BS #[Y H kd,Y H ln,Y H sz,Y H a,Y H b,Y H c,Y H d,Y H f,Y H g,Y H i,Y H j,Y H k,Y H l,Y H mp]] w fun e w'=>e=Av (AY (decide ([kd,ln,sz,a,b,c,d,f,g,i,j,k,l,mp]=zeroI)))/\AB w.heap.size w w':=by
 have p:=AF w (Ay #[Y H kd,Y H ln,Y H sz,Y H a,Y H b,Y H c,Y H d,Y H f,Y H g,Y H i,Y H j,Y H k,Y H l,Y H mp] 44);have o:=AC w (Ay #[Y H kd,Y H ln,Y H sz,Y H a,Y H b,Y H c,Y H d,Y H f,Y H g,Y H i,Y H j,Y H k,Y H l,Y H mp] 44);have n:(w.alloc (Ay #[Y H kd,Y H ln,Y H sz,Y H a,Y H b,Y H c,Y H d,Y H f,Y H g,Y H i,Y H j,Y H k,Y H l,Y H mp] 44)).rangeAt w.heap.size 0 (iC [kd,ln,sz,a,b,c,d,f,g,i,j,k,l,mp]):=Gf o;have m:=wN n;have u1:=underlying44;clear o n;have q:(kd==0)=E:=by simp[h]
 clear h;go_enter func47,ntmps47
 go_wp2_with (first|(with_reducible refine BG rfl 44 (.tmp 1) rfl w.heap.size 0 rfl [kd,ln,sz,a,b,c,d,f,g,i,j,k,l,mp] _ m.out u1 rfl rfl ?_)|(with_reducible refine TJ rfl (.tmp 8) (.tmp 9) rfl [kd,ln,sz,a,b,c,d,f,g,i,j,k,l,mp] zeroI rfl rfl rfl rfl ?_))
 go_ret;exact⟨rfl,p⟩
def OG(W:At)(a:Addr):(Instr.sliceAt 42 (Ax (V a)) u u u).run I W=.ok (Aw (V a) 10 10) W:=by
 obtain⟨i,c,j,k,l⟩:=Bs Uf;have d:I.arrayLen 42=10:=Ac;have b:I.elem 42=3:=Ac;obtain⟨f,g,h⟩:=a;simp[Instr.sliceAt,Ck underlying42,sizeOf,typeInfo,c,Addr.add,Instr.sureAddr,Instr.sliceBounds]
def YS(kd ln sz a b c d f g i j k l mp:Int)(m:kd≠0)(h:¬ (1<=kd/\kd<=3))(w:At):AH I 47 #[BS #[Y H kd,Y H ln,Y H sz,Y H a,Y H b,Y H c,Y H d,Y H f,Y H g,Y H i,Y H j,Y H k,Y H l,Y H mp]] w fun e w'=>e=Av (AY AN)/\AB w.heap.size w w':=by
 have o:=AF w (Ay #[Y H kd,Y H ln,Y H sz,Y H a,Y H b,Y H c,Y H d,Y H f,Y H g,Y H i,Y H j,Y H k,Y H l,Y H mp] 44);have n:=wN (VU kd h);have p:(kd==0)=AN:=by simp[m]
 clear h m;go_enter func47,ntmps47
 go_wp2_with (first|(go_at_call 88;with_reducible refine Ad (n.out _) ?_;rintro w' rfl))
 go_ret;exact⟨rfl,o⟩
def mL(kd ln sz a b c d f g i k l m mp:Int)(h:1<=kd/\kd<=3)(w:At):AH I 47 #[BS #[Y H kd,Y H ln,Y H sz,Y H a,Y H b,Y H c,Y H d,Y H f,Y H g,Y H i,Y H k,Y H l,Y H m,Y H mp]] w fun e w'=>e=Av (AY (Md kd ln sz mp [a,b,c,d,f,g,i,k,l,m]))/\AB w.heap.size w w':=by
 have s:=AF w (Ay #[Y H kd,Y H ln,Y H sz,Y H a,Y H b,Y H c,Y H d,Y H f,Y H g,Y H i,Y H k,Y H l,Y H m,Y H mp] 44);have J:(w.alloc (Ay #[Y H kd,Y H ln,Y H sz,Y H a,Y H b,Y H c,Y H d,Y H f,Y H g,Y H i,Y H k,Y H l,Y H m,Y H mp] 44)).heap[w.heap.size]? =V (iO [kd,ln,sz,a,b,c,d,f,g,i,k,l,m,mp] 44):=AC w _;have n:=wN (Tt kd h);have N:(kd==0)=AN:=Ak;have K:=OG (w.alloc (Ay #[Y H kd,Y H ln,Y H sz,Y H a,Y H b,Y H c,Y H d,Y H f,Y H g,Y H i,Y H k,Y H l,Y H m,Y H mp] 44)) ⟨w.heap.size,3,u⟩;unfold Md;rw[AK h,AS];obtain⟨M,E⟩:=nm (eu kd);rw[<- E] at n |-
 clear E h;obtain⟨z,t⟩:∃ B,decide (0<=ln/\ln<=200)=B:=⟨_,rfl⟩;obtain⟨A,v⟩:∃ B,decide (0<=sz/\sz<=M)=B:=⟨_,rfl⟩;obtain⟨C,x⟩:∃ B,FN [a,b,c,d,f,g,i,k,l,m]=B:=⟨_,rfl⟩;obtain⟨D,y⟩:∃ B,Ub mp=B:=⟨_,rfl⟩;rw[t,v,x,y];have F:ISl (w.alloc (Ay #[Y H kd,Y H ln,Y H sz,Y H a,Y H b,Y H c,Y H d,Y H f,Y H g,Y H i,Y H k,Y H l,Y H m,Y H mp] 44)) (Aw (V ⟨w.heap.size,3,u⟩) 10 10) [a,b,c,d,f,g,i,k,l,m]:=A8 ⟨_,_,rfl,fun j G=>by
  refine⟨Ai,rfl,?_⟩;have G:j<10:=G;have L:=Gd J (3+j) Ak;show(w.alloc _).cell? ⟨w.heap.size,3+j,u⟩=_
  rw[L,show 3+j=j+3 from Aa];have:j=0\/j=1\/j=2\/j=3\/j=4\/j=5\/j=6\/j=7\/j=8\/j=9:=Aa;rcases this with rfl|rfl|rfl|rfl|rfl|rfl|rfl|rfl|rfl|rfl <;> rfl⟩
 have o:=wN (LD ln 200 z t);have p:=wN (LD sz M A v);have r:=wN (Ix F Ai C x);have q:=wN (J2 mp D y);clear t v x y F J;cases z
 case false=>
  go_enter func47,ntmps47
  go_wp2_with (first|(go_at_call 88;with_reducible refine Ad (n.out _) ?_;rintro w' rfl)|(go_at_call 89;with_reducible refine Ad (o.out _) ?_;rintro w' rfl)|(go_at_call 89;with_reducible refine Ad (p.out _) ?_;rintro w' rfl)|(go_at_call 90;refine Ad r.out ?_;rintro w' rfl)|(go_at_call 91;with_reducible refine Ad (q.out _) ?_;rintro w' rfl))
  go_ret;exact⟨rfl,s⟩
 cases A
 case false=>
  go_enter func47,ntmps47
  go_wp2_with (first|(go_at_call 88;with_reducible refine Ad (n.out _) ?_;rintro w' rfl)|(go_at_call 89;with_reducible refine Ad (o.out _) ?_;rintro w' rfl)|(go_at_call 89;with_reducible refine Ad (p.out _) ?_;rintro w' rfl)|(go_at_call 90;refine Ad r.out ?_;rintro w' rfl)|(go_at_call 91;with_reducible refine Ad (q.out _) ?_;rintro w' rfl))
  go_ret;exact⟨rfl,s⟩
 cases C
 case false=>
  go_enter func47,ntmps47
  go_wp2_with (first|(go_at_call 88;with_reducible refine Ad (n.out _) ?_;rintro w' rfl)|(go_at_call 89;with_reducible refine Ad (o.out _) ?_;rintro w' rfl)|(go_at_call 89;with_reducible refine Ad (p.out _) ?_;rintro w' rfl)|(go_at_call 90;refine Ad r.out ?_;rintro w' rfl)|(go_at_call 91;with_reducible refine Ad (q.out _) ?_;rintro w' rfl))
  go_ret;exact⟨rfl,s⟩
 cases D
 case false=>
  go_enter func47,ntmps47
  go_wp2_with (first|(go_at_call 88;with_reducible refine Ad (n.out _) ?_;rintro w' rfl)|(go_at_call 89;with_reducible refine Ad (o.out _) ?_;rintro w' rfl)|(go_at_call 89;with_reducible refine Ad (p.out _) ?_;rintro w' rfl)|(go_at_call 90;refine Ad r.out ?_;rintro w' rfl)|(go_at_call 91;with_reducible refine Ad (q.out _) ?_;rintro w' rfl))
  go_ret;exact⟨rfl,s⟩
 case true=>
  go_enter func47,ntmps47
  go_wp2_with (first|(go_at_call 88;with_reducible refine Ad (n.out _) ?_;rintro w' rfl)|(go_at_call 89;with_reducible refine Ad (o.out _) ?_;rintro w' rfl)|(go_at_call 89;with_reducible refine Ad (p.out _) ?_;rintro w' rfl)|(go_at_call 90;refine Ad r.out ?_;rintro w' rfl)|(go_at_call 91;with_reducible refine Ad (q.out _) ?_;rintro w' rfl))
  go_ret;exact⟨rfl,s⟩
def iM{L:Ab}(b:L.length=14)(w:At):AH I 47 #[BS (iC L).toArray] w fun e w'=>e=Av (AY (Ee L))/\AB w.heap.size w w':=by
 match L,b with
 |[kd,ln,sz,d0,d1,d2,d3,d4,d5,d6,d7,d8,d9,mp],_=>
  show AH I 47 #[BS #[Y H kd,Y H ln,Y H sz,Y H d0,Y H d1,Y H d2,Y H d3,Y H d4,Y H d5,Y H d6,Y H d7,Y H d8,Y H d9,Y H mp]] w fun e w'=>e=Av (AY (if kd=0 then decide ([kd,ln,sz,d0,d1,d2,d3,d4,d5,d6,d7,d8,d9,mp]=zeroI) else Md kd ln sz mp [d0,d1,d2,d3,d4,d5,d6,d7,d8,d9]))/\AB w.heap.size w w'
  by_cases a:kd=0
  . rw[AG a];exact XF kd ln sz d0 d1 d2 d3 d4 d5 d6 d7 d8 d9 mp a w
  . rw[AJ a]
    by_cases h:1<=kd/\kd<=3
    . exact mL kd ln sz d0 d1 d2 d3 d4 d5 d6 d7 d8 d9 mp h w
    . have e:Md kd ln sz mp [d0,d1,d2,d3,d4,d5,d6,d7,d8,d9]=AN:=by unfold Md;rw[AM h];rfl
      rw[e];exact YS kd ln sz d0 d1 d2 d3 d4 d5 d6 d7 d8 d9 mp a h w
def V5{L:Ab}(a:L.length=14)(B:Bool)(h:Ee L=B)(w:At):AH I 47 #[BS (iC L).toArray] w fun e w'=>e=Av (AY B)/\AB w.heap.size w w':=by
 rw[<- h];exact iM a w
def w7(j:Nat):Nat:=if j<2 then 1 else if j=2 then 4 else 2
def p7:Nat->Nat
 |0=>0
 |j+1=>p7 j+w7 j
def iU(j:Nat):1<=w7 j/\w7 j<=4:=by unfold w7;split <;> (try split) <;> omega
def NA(j:Nat):w7 (3+j)=2:=by unfold w7;rw[AJ Aa,AJ Aa]
def Xk:∀ j,p7 (3+j)=6+2*j
 |0=>rfl
 |j+1=>by
  have:=Xk j;show p7 (3+j)+w7 (3+j)=_
  rw[this,NA];omega
def pM(j:Nat)(a:j<14):p7 j+w7 j<=28:=by
 by_cases h:j<3
 . have:j=0\/j=1\/j=2:=by omega
   rcases this with rfl|rfl|rfl <;> decide
 . obtain⟨k,rfl⟩:∃ k,j=3+k:=⟨j-3,Aa⟩
   rw[Xk,NA];omega
def qV:p7 14=28:=rfl
def Gl(L:Ab):Nat->Ab
 |0=>[]
 |j+1=>Gl L j ++ B8 (L.getD j 0) (w7 j)
def EG(L:Ab):∀ j,(Gl L j).length=p7 j
 |0=>rfl
 |j+1=>by rw[Gl,AO,EG L j,Bp];rfl
def Mb(L:Ab):Ab:=Gl L 14 ++ AI 4 0
def Kd(L:Ab):(Mb L).length=32:=by rw[Mb,AO,EG,Bg];rfl
def Y9(L:Ab)(i:Nat):∀ j,i<j->∃ B,Gl L j=Gl L i ++ (B8 (L.getD i 0) (w7 i) ++ B):=by
 intro j;induction j with
 |zero=>intro h;omega
 |succ j ih=>
  intro h;by_cases e:i=j
  . subst e;exact⟨[],by rw[Gl];simp⟩
  . obtain⟨B,a⟩:=ih Aa
    exact⟨B ++ B8 (L.getD j 0) (w7 j),by rw[Gl,a];simp⟩
def Hz{L:Ab}(l:L.length=14)(h:Ee L=E)(j:Nat)(n:j<14):0<=L.getD j 0/\L.getD j 0<256 ^ w7 j:=by
 unfold Ee at h;split at h
 . have e:=Ba h
   have f:L.getD j 0=0:=by
    rw[e]
    match j,n with
    |0,_|1,_|2,_|3,_|4,_|5,_|6,_|7,_|8,_|9,_|10,_|11,_|12,_|13,_=>rfl
   have:=LK (w7 j);rw[f];omega
 . unfold Md at h
   simp only[A0,Bh] at h;obtain⟨o,p,q,g,i⟩:=h;have r:eu (L.getD 0 0)<=35328:=by unfold eu;split <;> omega
   by_cases a:j=0
   . subst a;rw[show w7 0=1 from rfl,Int.pow_succ,Int.pow_zero];omega
   by_cases b:j=1
   . subst b;rw[show w7 1=1 from rfl,Int.pow_succ,Int.pow_zero];omega
   by_cases c:j=2
   . subst c;rw[show w7 2=4 from rfl,show(256:Int) ^ 4=4294967296 from rfl];omega
   obtain⟨k,rfl⟩:∃ k,j=3+k:=⟨j-3,Aa⟩;rw[NA,show(256:Int) ^ 2=65536 from rfl];by_cases d:k=10
   . subst d
     have:=inB_iff.1 i;show 0<=L.getD 13 0/\L.getD 13 0<65536
     omega
   . have m:=inB_iff.1 ((E9 _).1 g k (by simp[l];omega))
     have e:((L.drop 3).take 10).getD k 0=L.getD (3+k) 0:=by
      simp only[Az,Bb,Bv];rw[AG Aa]
     rw[e] at m;omega
def js(c:Ab):Ab:=(BE 14).map fun j=>Cs c (p7 j) (w7 j)
def Jb(c:Ab):(js c).length=14:=by simp[js]
def nU(c:Ab)(j:Nat)(a:j<14):(js c).getD j 0=Cs c (p7 j) (w7 j):=by
 simp[js,a]
def q_{L M:Ab}(h:L.length=14)(a:M.length=14)(e:∀ j,j<14->L.getD j 0=M.getD j 0):L=M:=by
 apply Bt (by rw[h,a]);intro i b c;have:=e i Aa
 simpa [b,c] using this
def mz{L:Ab}(b:L.length=14)(h:Ee L=E):js (Mb L)=L:=by
 refine q_ (Jb _) b fun j a=>?_
 rw[nU _ _ a,Mb];obtain⟨B,f⟩:=Y9 L j 14 a;obtain⟨c,d⟩:=Hz b h j a;rw[f,Bj,Bj,<- EG L j];exact ax _ _ _ _ c d
def G0(c:Ab)(j:Nat):Ab:=(BE 14).map fun i=>if i<j then Cs c (p7 i) (w7 i) else 0
def G6(c:Ab)(j:Nat):(G0 c j).length=14:=by simp[G0]
def cW(c:Ab)(j:Nat):(G0 c j).set j (Cs c (p7 j) (w7 j))=G0 c (j+1):=by
 apply Bt (by rw[AR,G6,G6]);intro i a b;simp only[G0,Eh,Cu,Co];by_cases e:j=i
 . subst e;rw[AG rfl,AG Aa]
 . rw[AJ e]
   by_cases h:i<j
   . rw[AG h,AG Aa]
   . rw[AJ h,AJ Aa]
def XN(c:Ab):G0 c 14=js c:=by
 unfold G0 js;apply Cr;intro i a;rw[AG (Bq.1 a)]
def Zk(c:Ab):G0 c 0=zeroI:=by
 unfold G0;rw[Cr (g:=fun _=>(0:Int)) (fun i _=>AJ (Bm _))];rfl
def t8{c:Ab}(hb:Fv c)(j:Nat):0<=Cs c (p7 j) (w7 j)/\Cs c (p7 j) (w7 j)<4294967296:=by
 have h:=EI (Da hb) (p7 j) (w7 j);have:=Hi (iU j).2;have e:(256:Int) ^ 4=4294967296:=rfl;omega
def G7(O:Ae):Bool:=decide (O.length=8) && O.all Ee
def F4(O:Ae):Prop:=∀ x∈O,x.length=14
def Hh{O:Ae}(h:F4 O)(k:Nat)(a:k<O.length):(O.getD k []).length=14:=by
 have:O.getD k []=O[k]:=by simp[a]
 rw[this];exact h _ (Br a)
def Uc(O:Ae):O.all Ee=E ↔ ∀ j,j<O.length->Ee (O.getD j [])=E:=by
 rw[Dn];constructor
 . intro h j a
   have:O.getD j []=O[j]:=(by simp[a]);rw[this];exact h _ (Br a)
 . intro h x b
   obtain⟨j,a,rfl⟩:=CC b;have:=h j a
   simpa [a] using this
def QF{O:Ae}(a:O.length=8)(h:∀ j,j<8->Ee (O.getD j [])=E):G7 O=E:=by
 unfold G7;rw[AK a,AS,Uc,a];exact h
def aH{O:Ae}{k:Nat}(b:O.length=8)(c:k<8)(h:Ee (O.getD k [])=AN):G7 O=AN:=by
 cases a:G7 O
 . rfl
 . unfold G7 at a
   rw[A0] at a;have:=(Uc O).1 a.2 k Aa;rw[h] at this;cases this
def kP{O:Ae}(h:G7 O=E):O.length=8/\∀ j,j<8->Ee (O.getD j [])=E:=by
 unfold G7 at h;rw[A0] at h;have a:=Ba h.1;refine⟨a,fun j b=>(Uc O).1 h.2 j Aa⟩
def EP(O:Ae):Nat->Ab
 |0=>[]
 |k+1=>EP O k ++ Mb (O.getD k [])
def Fk(O:Ae):∀ k,(EP O k).length=32*k
 |0=>rfl
 |k+1=>by rw[EP,AO,Fk O k,Kd];omega
def Gw(O:Ae):Ab:=EP O 8
def MI(l:Ab)(k:Nat):Ab:=(l.drop (32*k)).take 32
def S0{l:Ab}(h:l.length=256)(k:Nat)(a:k<8):(MI l k).length=32:=by simp[MI];omega
def Wo(O:Ae)(i:Nat):∀ j,i<j->∃ B,EP O j=EP O i ++ (Mb (O.getD i []) ++ B):=by
 intro j;induction j with
 |zero=>intro h;omega
 |succ j ih=>
  intro h;by_cases e:i=j
  . subst e;exact⟨[],by rw[EP];simp⟩
  . obtain⟨B,a⟩:=ih Aa
    exact⟨B ++ Mb (O.getD j []),by rw[EP,a];simp⟩
def b9(O:Ae)(k:Nat)(b:k<8):MI (Gw O) k=Mb (O.getD k []):=by
 obtain⟨B,a⟩:=Wo O k 8 b;unfold MI Gw;rw[a,<- Fk O k,List.drop_left,<- Kd (O.getD k []),List.take_left]
def tY(l:Ab)(k:Nat):Ab:=js (MI l k)
def TM(l:Ab)(n:Nat):Ae:=(BE n).map (tY l)
def LP(l:Ab)(n:Nat):(TM l n).length=n:=by simp[TM]
def rM(l:Ab)(n:Nat):F4 (TM l n):=fun x a=>by
 obtain⟨j,_,rfl⟩:=Ce.1 a;exact Jb _
def EY(l:Ab)(n k:Nat):Ae:=(BE n).map fun j=>if j<k then tY l j else zeroI
def Gm(l:Ab)(n k:Nat):(EY l n k).length=n:=by simp[EY]
def Vk(l:Ab)(n k:Nat):(EY l n k).set k (tY l k)=EY l n (k+1):=by
 apply Bt (by rw[AR,Gm,Gm]);intro i a b;simp only[EY,Eh,Cu,Co];by_cases e:k=i
 . subst e;rw[AG rfl,AG Aa]
 . rw[AJ e]
   by_cases h:i<k
   . rw[AG h,AG Aa]
   . rw[AJ h,AJ Aa]
def Tv(l:Ab)(n:Nat):EY l n 0=AI n zeroI:=by
 rw[List.eq_replicate_iff];refine⟨Gm l n 0,fun x a=>?_⟩;obtain⟨i,_,rfl⟩:=Ce.1 a;rw[AJ Aa]
def Tn(l:Ab)(n:Nat):EY l n n=TM l n:=by
 unfold EY TM;apply Cr;intro i a;rw[AG (Bq.1 a)]
def Zd(l:Ab)(n k:Nat):F4 (EY l n k):=fun x a=>by
 obtain⟨j,_,rfl⟩:=Ce.1 a;split
 . exact Jb _
 . rfl
def rJ(l:Ab):Prop:=l.length=256/\G7 (TM l 8)=E/\Gw (TM l 8)=l
def ZY{O:Ae}(d:F4 O)(h:G7 O=E):TM (Gw O) 8=O:=by
 obtain⟨c,f⟩:=kP h;apply Bt (by rw[LP,c]);intro i g a;have b:i<8:=Aa;have e:O.getD i []=O[i]:=by simp[a]
 simp only[TM,Cu,Co,tY];rw[b9 O i b,mz (Hh d i a) (f i b),e]
def kA{O:Ae}(a:F4 O)(h:G7 O=E):rJ (Gw O):=by
 have e:=ZY a h;exact⟨by rw[Gw,Fk],by rw[e];exact h,by rw[e]⟩
end
section
open Go.RowKit BM
def Jv(N:Ae)(t:Nat):Ae:=(N.drop (8*t)).take 8
def If{N:Ae}{t:Nat}(h:N.length=48)(a:t<6):(Jv N t).length=8:=by
 unfold Jv;rw[AV,By];omega
def QA(N:Ae)(t:Nat){j:Nat}(a:j<8):(Jv N t).getD j []=N.getD (8*t+j) []:=by
 unfold Jv;rw[Az,Bb,AG a,Bv,Az]
def nY(N:Ae){n t:Nat}(x:Ab)(a:n / 8≠t):Jv (N.set n x) t=Jv N t:=by
 apply List.ext_getElem?;intro i;unfold Jv;rw[Bb,Bb];split
 . rw[Bv,Bv,BB Aa]
 . rfl
def TU(N:Ae)(n:Nat)(x:Ab):Jv (N.set n x) (n / 8)=(Jv N (n / 8)).set (n%8) x:=by
 apply List.ext_getElem?;intro i;unfold Jv;rw[Bb];by_cases a:i<8
 . rw[AG a,Bv]
   by_cases he:n%8=i
   . have b:8*(n / 8)+i=n:=by omega
     rw[b];by_cases c:n<N.length
     . rw[CG c,he,CG (by rw[AV,By];omega)]
     . rw[Bf (by rw[AR];omega),Bf (by rw[AR,AV,By];omega)]
   . rw[BB Aa,BB he,Bb,AG a,Bv]
 . rw[AJ a,Bf]
   rw[AR,AV];omega
structure NOk (N:Ae):Prop where
 len:N.length=48
 l14:F4 N
 frm:∀ j,j<48->Ee (N.getD j [])=E
def NOk.get{N:Ae}(h:NOk N){j:Nat}(a:j<48):(N.getD j []).length=14:=Hh h.l14 j (by rw[h.len];exact a)
def NOk.set{N:Ae}(h:NOk N)(n:Nat){x:Ab}(d:x.length=14)(hf:Ee x=E):NOk (N.set n x):=by
 have c:=h.len;refine⟨by rw[AR];exact c,fun y f=>?_,fun j b=>?_⟩
 . rcases Ea f with a|a
   . exact h.l14 y a
   . rw[a];exact d
 . by_cases e:j=n
   . subst e;rw[Az,CG Aa];exact hf
   . rw[Az,BB (C0 e),<- Az];exact h.frm j b
def TW{N:Ae}(h:F4 N)(t:Nat):F4 (Jv N t):=fun x a=>h x (List.mem_of_mem_drop (DE a))
def NOk.all{N:Ae}(h:NOk N){t:Nat}(b:t<6):F4 (Jv N t)/\G7 (Jv N t)=E:=
 ⟨TW h.l14 t,QF (If h.len b) fun j a=>by rw[QA N t a];exact h.frm _ Aa⟩
def C5(S:Ab)(t:Nat):Nat:=(num S (6+t)).toNat
structure Tab (G:Ae) (S:Ab) (N:Ae):Prop where
 s12:S.length=12
 sf:DU S=E
 n:NOk N
 g0:G.getD 0 []=Gh S
 g63:G.getD 63 []=Gh S
 tb:∀ t,t<6->G.getD (C5 S t) []=Gw (Jv N t)
 le:num S 0<=G.length
def BQ{α:Type}(G:List α){i m:Nat}(x d:α)(h:m≠i):(G.set i x).getD m d=G.getD m d:=by
 rw[Az,BB (C0 h),<- Az]
def E6{S:Ab}(hf:DU S=E){t:Nat}(g:t<6):num S (6+t)=(C5 S t:Int)/\(C5 S t:Int)<num S 0/\num S 0<=768/\CZ (C5 S t:Int)=AN/\D7 (C5 S t)/\C5 S t≠0/\C5 S t≠63:=by
 obtain⟨d,_,f⟩:=Np hf;obtain⟨k,l,h,i⟩:=TO d;obtain⟨⟨b,c⟩,a,_⟩:=Ld f t g;have e:num S (6+t)=(C5 S t:Int):=by unfold C5;omega
 rw[e] at b c a;have j:=BL a;refine⟨e,Aa,Aa,a,?_,Aa,Aa⟩;unfold D7;omega
def ks{S:Ab}(hf:DU S=E){t s:Nat}(g:t<6)(f:s<6)(h:t≠s):C5 S t≠C5 S s:=by
 have d:=(Np hf).2.2;have a:=(E6 hf g).1;have b:=(E6 hf f).1;intro e;rw[e] at a;rcases Nat.lt_or_gt_of_ne h with c|c
 . exact(Ld d s f).2.2 t c (by rw[a,b])
 . exact(Ld d t g).2.2 s c (by rw[a,b])
section
variable {G:Ae}{S:Ab}{N:Ae}
def Tab.at(h:Tab G S N){t:Nat}(a:t<6):C5 S t<G.length:=by
 have:=E6 h.sf a;have:=h.le;omega
def Tab.same(h:Tab G S N){a:Ae}(c:a.length=G.length)(he:∀ i,i=0\/i=63\/(∃ t,t<6/\i=C5 S t)->a.getD i []=G.getD i []):Tab a S N:=
 ⟨h.s12,h.sf,h.n,by rw[he 0 (A4 rfl)];exact h.g0,by rw[he 63 (A8 (A4 rfl))];exact h.g63,fun t b=>by rw[he _ (A8 (A8 ⟨t,b,rfl⟩))];exact h.tb t b,by rw[c];exact h.le⟩
def Tab.putI(h:Tab G S N){n:Nat}(g:n<48){x:Ab}(f:x.length=14)(hf:Ee x=E):Tab (G.set (C5 S (n / 8)) (Gw (Jv (N.set n x) (n / 8)))) S (N.set n x):=by
 have b:n / 8<6:=Aa;have a:=E6 h.sf b;have d:=h.at b;refine⟨h.s12,h.sf,h.n.set n f hf,?_,?_,fun t c=>?_,by rw[AR];exact h.le⟩
 . rw[BQ _ _ _ (C0 a.2.2.2.2.2.1)];exact h.g0
 . rw[BQ _ _ _ (C0 a.2.2.2.2.2.2)];exact h.g63
 . by_cases e:t=n / 8
   . subst e;rw[Az,CG d];rfl
   . rw[BQ _ _ _ (ks h.sf c b e),nY N x (C0 e)];exact h.tb t c
def Mx{g:Nat}(a:g<12):CZ (Cp g:Int)=E/\CZ ((Cp g+1:Nat):Int)=E/\Cp g≠0/\Cp g+1≠63/\Cp g≠63:=by
 unfold Cp CZ;split <;> refine⟨AK Aa,AK Aa,Aa,Aa,Aa⟩
def Tab.putG(h:Tab G S N){g:Nat}(d:g<12)(D:Ag):Tab (putG G g D) S N:=by
 have c:=Mx d;refine h.same (by unfold Go.Proofs.YtfpdajplfmakhaaGreatDoor.putG;rw[AR,AR]) fun i f=>?_
 have b:i≠Cp g/\i≠Cp g+1:=by
  rcases f with rfl|rfl| ⟨t,j,rfl⟩
  . omega
  . omega
  . have a:=(E6 h.sf j).2.2.2.1
    constructor
    . intro e;rw[e,c.1] at a;cases a
    . intro e;rw[e,c.2.1] at a;cases a
 unfold Go.Proofs.YtfpdajplfmakhaaGreatDoor.putG;rw[BQ _ _ _ b.1,BQ _ _ _ b.2]
end
def Has.other{G:Ae}{O:Ag}{k:Nat}(h:Has G O k)(d:k<=12){i:Nat}(hi:i=0\/i=63\/CZ (i:Int)=AN)(x:Ab):Has (G.set i x) O k:=by
 have b:∀ g,g<k->Cp g≠i/\Cp g+1≠i:=fun g a=>by
  have c:=Mx (show g<12 from Aa);rcases hi with rfl|rfl|hi
  . omega
  . omega
  . constructor
    . intro e;rw[<- e,c.1] at hi;cases hi
    . intro e;rw[<- e,c.2.1] at hi;cases hi
 exact⟨by rw[AR];exact h.len,fun g a=>by rw[BQ _ _ _ (b g a).1];exact h.ds g a,fun g a=>by rw[BQ _ _ _ (b g a).2];exact h.ow g a⟩
def Wu{S:Ab}:(Gh S).length=256:=by rw[Gh];exact Dp _ (by rw[Yy];decide)
def Qc(O:Ae):(Gw O).length=256:=Fk O 8
def Ed(kk:Nat):Ab:=[64*(kk:Int),0,0,0,0,0,43,44,45,46,47,48]
def pZ:Ab:=[2,1,0,0,0,0,0,0,0,0,0,0,0,0]
def newN:Ae:=(AI 48 zeroI).set 1 pZ
def nO:NOk newN:=by
 refine⟨rfl,?_,?_⟩
 . intro x a
   rcases Ea a with h|h
   . rw[B6 h];rfl
   . rw[h];rfl
 . decide
def O9{kk:Nat}(d:1<=kk)(f:kk<=12):DU (Ed kk)=E:=by
 unfold DU;have b:num (Ed kk) 0=64*(kk:Int):=rfl;rw[b,TV kk d f,A0,A0];have c:∀ k:Nat,k<6->num (Ed kk) (6+k)=43+(k:Int):=fun k h=>by
  have a:k=0\/k=1\/k=2\/k=3\/k=4\/k=5:=Aa;rcases a with rfl|rfl|rfl|rfl|rfl|rfl <;> rfl
 refine⟨rfl,rfl,(IY _ 6).2 fun i g=>?_⟩;unfold Zq;rw[b,c i g];refine⟨Aa,?_,fun k h=>by rw[c k Aa];omega⟩;unfold CZ;exact AM Aa
def T3(G:Ae)(c:Nat):Prop:=∀ t,t<c->G.getD (43+t) []=Gw (Jv newN t)
def T3.zero(G:Ae):T3 G 0:=fun t h=>absurd h (Bm _)
def T3.put{G:Ae}{k:Nat}(h:T3 G k)(a:43+k<G.length){x:Ab}(b:x=Gw (Jv newN k)):T3 (G.set (43+k) x) (k+1):=fun t c=>by
 by_cases e:t=k
 . subst e;rw[Az,CG a,b];rfl
 . rw[BQ _ _ _ Aa];exact h t Aa
def T3.other{G:Ae}{k:Nat}(h:T3 G k){i:Nat}(hi:i<43\/49<=i)(b:k<=6)(x:Ab):T3 (G.set i x) k:=fun t a=>by
 rw[BQ _ _ _ Aa];exact h t a
def Yb{k:Nat}(h:k<6)(b:k≠0):AI 8 zeroI=Jv newN k:=by
 have a:k=1\/k=2\/k=3\/k=4\/k=5:=Aa;rcases a with rfl|rfl|rfl|rfl|rfl <;> rfl
def newT_frm:G7 ((AI 8 zeroI).set 1 pZ)=E/\G7 (AI 8 zeroI)=E:=Af
structure New3 (G:Ae) (kk:Nat):Prop where
 t:T3 G 6
 g0:G.getD 0 []=Gh (Ed kk)
 g63:G.getD 63 []=Gh (Ed kk)
def New3.tab{G:Ae}{kk:Nat}(h:New3 G kk)(b:1<=kk)(c:kk<=12)(d:G.length=64*kk):Tab G (Ed kk) newN:=
 ⟨rfl,O9 b c,nO,h.g0,h.g63,fun t f=>by
   have a:t=0\/t=1\/t=2\/t=3\/t=4\/t=5:=Aa;have:=h.t t f;rcases a with rfl|rfl|rfl|rfl|rfl|rfl <;> exact this,by rw[d];show 64*(kk:Int)<=_;omega⟩
def T3.sup{G:Ae}(h:T3 G 6)(kk:Nat)(b:63<G.length){x:Ab}(a:x=Gh (Ed kk)):New3 ((G.set 0 x).set 63 x) kk:=by
 refine⟨(h.other (A4 Af) Af x).other (A8 Af) Af x,?_,?_⟩
 . rw[BQ _ _ _ Af,Az,CG Aa,a];rfl
 . rw[Az,CG (by rw[AR];exact b),a];rfl
def YE(n:Int)(w:At):AH I 259 #[Y H n] w fun e w'=>e=Av (AY (decide (0<=n/\n<768)))/\w=w':=by
 by_cases a:0<=n
 . by_cases b:n<768
   . rw[AK ⟨a,b⟩]
     go_enter func259,ntmps259;go_wp2;go_ret;exact⟨rfl,rfl⟩
   . rw[AM (fun h=>b h.2)]
     go_enter func259,ntmps259;go_wp2;go_ret;exact⟨rfl,rfl⟩
 . rw[AM (fun h=>a h.1)]
   go_enter func259,ntmps259;go_wp2;go_ret;exact⟨rfl,rfl⟩
def Sc(n:Int)(B:Bool)(h:decide (0<=n/\n<768)=B)(w:At):AH I 259 #[Y H n] w fun e w'=>e=Av (AY B)/\w=w':=by
 rw[<- h];exact YE n w
def PX(n:Int):Bool:=decide (0<=n/\n<768) && !CZ n
def XJ(n:Int)(g:n<=9223372036854775807)(w:At):AH I 237 #[Y H n] w fun e w'=>e=Av (AY (PX n))/\w=w':=by
 cases a:decide (0<=n/\n<768)
 . have b:PX n=AN:=by rw[PX,a];rfl
   rw[b];have c:=wN (Sc n AN a);clear a b;go_enter func237,ntmps237;go_wp2_with (go_at_call 259;refine Ad (c.out _) ?_;rintro w' rfl)
   go_ret;exact⟨rfl,rfl⟩
 . obtain⟨F,d⟩:=nm (CZ n)
   have b:PX n=!F:=(by rw[PX,a,d];rfl);rw[b];have c:=wN (Sc n E a);have f:=wN (Lh n g F d.symm);clear a b d;cases F
   all_goals
    go_enter func237,ntmps237
    go_wp2_with (first|(go_at_call 259;refine Ad (c.out _) ?_;rintro w' rfl)|(go_at_call 221;refine Ad (f.out _) ?_;rintro w' rfl))
    go_ret;exact⟨rfl,rfl⟩
def bX(n:Int)(a:n<=9223372036854775807)(B:Bool)(h:PX n=B)(w:At):AH I 237 #[Y H n] w fun e w'=>e=Av (AY B)/\w=w':=by
 rw[<- h];exact XJ n a w
def Qz(i a:Int):Bool:=(i==0) && (a==0)
def Zl(i a:Int)(w:At):AH I 213 #[BS #[Y .u16 i,Y .u16 a]] w fun e w'=>e=Av (AY (Qz i a))/\AB w.heap.size w w':=by
 have b:=AF w (Ay #[Y .u16 i,Y .u16 a] 200);cases c:(i==0)
 all_goals cases d:(a==0)
 all_goals
  rw[Qz,c,d];go_enter func213,ntmps213;go_wp2;go_ret;exact⟨Ai,b⟩
def Lg(i a:Int)(B:Bool)(h:Qz i a=B)(w:At):AH I 213 #[BS #[Y .u16 i,Y .u16 a]] w fun e w'=>e=Av (AY B)/\AB w.heap.size w w':=by
 rw[<- h];exact Zl i a w
def RI{w:At}{v:AA}{O:Ag}(k:OwSl w v O)(g:Int)(b:0<=g)(c:g<12)(l:FQ O=E):
 AH I 262 #[Y H g,v] w fun e w'=>∃ v,e=Av (AT #[v,Y H 0])/\OB w' w.heap.size v (Gz g (CY O 64))/\AB w.heap.size w w':=by
 have n:=wN (dy k g b c l);have o:=wN (fun(W:At) (p r:Nat) (h:BRow W p r (CY O 64))=>bC h g b c (EL O 64));obtain⟨t,s,rfl⟩:=k.shape;clear k l;go_enter func262,ntmps262
 go_wp2_with (first|(go_at_call 268;refine n.out.mono ?_;rintro e m ⟨p,r,rfl,d,a⟩;have q:=d.low (AF m (Ay #[Y H g,Ax (V ⟨p,0,u⟩)] 345));have f:=AF m (Ay #[Y H g,Ax (V ⟨p,0,u⟩)] 345))|(go_at_call 269;refine(o.out _ p r q).mono ?_;rintro e x ⟨v,rfl,j,i⟩))
 go_ret2;exact⟨v,rfl,j.more (by simp;have:=a.size;omega),(a.trans (f.mono a.size)).trans (i.mono (by simp;have:=a.size;omega))⟩
end
section
open Go.RowKit Go.ChangeMaps
def D9(S:Ab)(n:Int):Ab:=if n∈S then S else S ++ [n]
def iKeyed:Maps.Keyed I 3:=Maps.int_keyed underlying3
def Ls{n:Int}(h: -9223372036854775808<=n/\n<=9223372036854775807):(Lit.int H n).wf=E:=by
 simp only[Lit.wf,A0,Bh];exact h
def Zc{n:Int}(h:(Lit.int H n).wf=E):keyOf I 3 (.int H n)=V (.int H n):=Maps.keyOf_int_mk underlying3 h
end
section
open Go.RowKit
structure RSt where
 is:Ae
 call:Ae
 put:Ab
 sts:List Ae
 wi:Bool
def Fo{w w':At}{B n size:Nat}{T:Cn}{v:AA}{us:List AA}(h:w.ownsRow B T size v n us)(f:∀ g,v.ownBlock=V g->w'.heap[g]? =w.heap[g]?):w'.ownsRow B T size v n us:=by
 refine⟨h.1,h.2.imp id ?_⟩;rintro⟨g,a,b,rfl,c,d,r⟩;exact⟨g,a,b,rfl,c,by rw[f g rfl];exact d,r⟩
structure XSt where
 base:Ae
 is:Ae
 call:Ae
 put:Ab
 wi:Bool
 dt:Nat
 ds:DS
structure XOk (X:XSt):Prop where
 lst:Lst X.is.length X.ds X.base
 pow:X.ds.dn=AN
 un:X.ds.U.length<=1000
 call:X.wi=E->X.call.length=X.is.length
 dt:X.dt<=37
def QH(n:Nat)(ds:DS)(l:List Ae):Prop:=ds.U.length<=1000/\ds.F.length=n/\∀ a,∃ G∈l,Jst n (ds.crash a).F G
def Qg(X:XSt):Int × XSt:=if X.wi=E then (17,X) else (0,{ X with call:=X.is,put:=[],wi:=E })
def jU(X:XSt)(n:Int)(l:Ab):Int × XSt:=
 if X.wi=AN then (17,X) else if n<0\/(X.is.length:Int)<=n\/l.length≠256 then (1,X) else if n ∉ X.put/\37<=X.put.length then (13,X) else (0,{ X with call:=X.call.set n.toNat l,put:=D9 X.put n })
def OA(a:At->(Nat->Prop)->AA->AA->XSt->Prop)(w:At)(P:Nat->Prop)(d p:AA)(r:Int × XSt)(e:Ending)(w':At):Prop:=
 e=Av (Y H r.1)/\∃ b,a w' b d p r.2/\Chg P b w w'
def pR(a:At->(Nat->Prop)->AA->AA->DS->Prop)(w:At)(P:Nat->Prop)(d p:AA)(X:XSt)(l:List Ae)(e:Ending)(w':At):Prop:=
 X.ds.fu=E/\e=Av (Y H 2)/\∃ c b,a w' c d p b/\Chg P c w w'/\QH X.is.length b l
structure Sto (Inv:At->(Nat->Prop)->AA->AA->XSt->Prop) (Dead:At->(Nat->Prop)->AA->AA->DS->Prop):Prop where
 plain:∀ {w P d p X},Inv w P d p X->XOk X
 ptr:∀ {w P d p X},Inv w P d p X->∃ b,p=Ax (V ⟨b,0,u⟩)
 lt:∀ {w P d p X},Inv w P d p X->∀ k,P k->k<w.heap.size
 keep:∀ {w w' P d p X},Inv w P d p X->w.heap.size<=w'.heap.size->(∀ k,P k->w'.heap[k]? =w.heap[k]?)->Inv w' P d p X
 disk:∀ {w P d p X},Inv w P d p X->∃ Pd,(∀ k,Pd k->P k)/\Dk w Pd d X.ds
 deadLt:∀ {w P d p ds},Dead w P d p ds->∀ k,P k->k<w.heap.size
 deadKeep:∀ {w w' P d p ds},Dead w P d p ds->w.heap.size<=w'.heap.size->(∀ k,P k->w'.heap[k]? =w.heap[k]?)->Dead w' P d p ds
 deadDisk:∀ {w P d p ds},Dead w P d p ds->∃ Pd,(∀ k,Pd k->P k)/\Dk w Pd d ds
 begin:∀ {w P d p X},Inv w P d p X->AH I 22 #[p] w (OA Inv w P d p (Qg X))
 put:∀ {w P d p X n v l},Inv w P d p X->BSl w v l-> -9223372036854775808<=n/\n<=9223372036854775807->D7 n.toNat->AH I 50 #[p,Y H n,v] w (OA Inv w P d p (jU X n l))
 getOut:∀ {w P d p X n},Inv w P d p X-> -9223372036854775808<=n/\n<=9223372036854775807->n<0\/(X.is.length:Int)<=n->AH I 104 #[p,Y H n] w fun e w'=>e=Av (AT #[Aw u 0 0,Y H 1])/\∃ P',Inv w' P' d p X/\Chg P P' w w'
 getIn:∀ {w P d p X} {n:Nat},Inv w P d p X->n<X.is.length->AH I 104 #[p,Y H n] w fun e w'=>∃ v l,e=Av (AT #[v,Y H 0])/\BSl w' v l/\(D7 n->l=(if X.wi=E then X.call else X.is).getD n [])/\∃ P',Inv w' P' d p X/\Chg P P' w w'
 endNo:∀ {w P d p X k},Inv w P d p X->X.wi=AN->AH I 25 #[p,AY k] w (OA Inv w P d p (17,X))
 endUndo:∀ {w P d p X},Inv w P d p X->X.wi=E->AH I 25 #[p,AY AN] w (OA Inv w P d p (0,{ X with wi:=AN }))
 endKeep:∀ {w P d p X},Inv w P d p X->X.wi=E->AH I 25 #[p,AY E] w fun e w'=>
  (∃ B dt ds',(B=X.base\/B=X.is\/B=X.call)/\ds'.fu=X.ds.fu/\OA Inv w P d p (0,{ X with base:=B,is:=X.call,wi:=AN,dt:=dt,ds:=ds' }) e w')\/pR Dead w P d p X [X.base,X.is,X.call] e w'
 opens:∀ {w P d ds n G},Dk w P d ds->64<=n->n<=768->ds.U=[]->ds.dn=AN->Jst n ds.F G->AH I 38 #[d] w fun e w'=>
  (∃ p ds' P',e=Av (AT #[p,Y H 0])/\ds'.fu=ds.fu/\Inv w' P' d p ⟨G,G,[],[],AN,0,ds'⟩/\Chg P P' w w')\/
    (ds.fu=E/\e=Av (AT #[Ax u,Y H 2])/\∃ ds' P',Dk w' P' d ds'/\Chg P P' w w'/\QH n ds' [G])
end
section
open Go.RowKit Go.Maps
def hdr(v:AA):Option (DataW Unit × List MemPlace):=
 match v with
 |Aw u 0 0=>V (.nil,[])
 |Aw (V ⟨b,off,u⟩) n c=>V (.agg [.lit (.int .u64 b),.lit (.int .u64 off),.lit (.int .u64 n),.lit (.int .u64 c)],[])
 |_=>u
def oW:hdr (Aw u 0 0)=V (.nil,[]):=rfl
def iy(b off n c:Nat):hdr (Aw (V ⟨b,off,u⟩) n c)=V (.agg [.lit (.int .u64 b),.lit (.int .u64 off),.lit (.int .u64 n),.lit (.int .u64 c)],[]):=rfl
def Se{v:AA}{y:DataW Unit × List MemPlace}(h:hdr v=V y):(v=Aw u 0 0/\y=(.nil,[]))\/∃ b off n c,v=Aw (V ⟨b,off,u⟩) n c/\y=(.agg [.lit (.int .u64 b),.lit (.int .u64 off),.lit (.int .u64 n),.lit (.int .u64 c)],[]):=by
 unfold hdr at h;split at h
 . exact A4 ⟨rfl,(Bc h).symm⟩
 . exact A8 ⟨_,_,_,_,rfl,(Bc h).symm⟩
 . cases h
def aN{v v':AA}{d:DataW Unit}{ps g:List MemPlace}(h:hdr v=V (d,ps))(j:hdr v'=V (d,g)):v=v':=by
 rcases Se h with⟨rfl,e⟩| ⟨b,k,n,c,rfl,e⟩ <;> rcases Se j with⟨rfl,f⟩| ⟨l,i,o,m,rfl,f⟩
 . rfl
 . have a:=(D4 e).1.symm.trans (D4 f).1;cases a
 . have a:=(D4 e).1.symm.trans (D4 f).1;cases a
 . have a:=(D4 e).1.symm.trans (D4 f).1
   simp only[DataW.agg.injEq,List.cons.injEq,DataW.lit.injEq,Lit.int.injEq,true_and,and_true,Int.natCast_inj] at a;obtain⟨rfl,rfl,rfl,rfl⟩:=a;rfl
def Mp(w:At)(b:Nat)(N:Ab)(g:Int->AA):Prop:=
 ∃ D:DataW Unit,w.ownsMap I 3 hdr b N.length D/\N.Nodup/\(∀ x∈N,(Lit.int H x).wf=E)/\(∀ x,Maps.has D (.int H x)=decide (x∈N))/\∀ x∈N,∃ d,hdr (g x)=V (d,[])/\∀ z,D.atKey (.int H x) z=d
def nX:(I.info? 77).map (fun i=>(i.zero,i.size,i.bytes))=V (V (Aw u 0 0),1,24):=Ac
def aO(w:At):(zeroValue 77).run I w=.ok (Aw u 0 0) w:=by
 obtain⟨t,a,b,_⟩:=Bs nX;simp[zeroValue,typeInfo,a,b,Result.andThen]
def YF{w:At}{b n:Nat}{D:DataW Unit}(h:w.ownsMap I 3 hdr b n D):w.ownsMap I 3 hdr b (Maps.size D) D:=by
 obtain⟨c,a,d,F,f,rfl⟩:=h;exact⟨c,a,d,F,Nat.le_of_eq (by unfold Maps.size;exact(length_read c).symm),rfl⟩
def Lb{w:At}{b n:Nat}{D:DataW Unit}(h:w.ownsMap I 3 hdr b n D){N:Ab}(i:N.Nodup)(j:∀ x,Maps.has D (.int H x)=decide (x∈N)):N.Perm (intKeys D)/\Maps.size D=N.length:=by
 obtain⟨c,rfl,m,_⟩:=h.entries iKeyed;have l:∀ p∈c,∃ x,p.1=.int H x:=fun p d=>by
  obtain⟨g,f,_,k⟩:=h.canonK iKeyed;cases f
  obtain⟨v,o⟩:=k p d;obtain⟨x,_,e,_⟩:=Maps.keyOf_i64 underlying3 o;exact⟨x,e⟩
 have a:=perm_intKeys m l i (fun x=>by rw[j x,Bh]);refine⟨a,?_⟩;have:=a.length_eq;rw[this];show c.length=(c.map fun p=>_root_.Go.intOf p.1).length
 rw[Bn]
def ZW{w:At}{b n:Nat}{D:DataW Unit}(h:w.ownsMap I 3 hdr b n D){N:Ab}{g:Int->AA}(c:N.Nodup)(j:∀ x∈N,(Lit.int H x).wf=E)(f:∀ x,Maps.has D (.int H x)=decide (x∈N))(i:∀ x∈N,∃ d,hdr (g x)=V (d,[])/\∀ z,D.atKey (.int H x) z=d):Mp w b N g:=by
 obtain⟨_,e⟩:=Lb h c f;have a:=YF h;rw[e] at a;exact⟨D,a,c,j,f,i⟩
section
variable {w:At}{b:Nat}{N:Ab}{g:Int->AA}
def Mp.lt(h:Mp w b N g):b<w.heap.size:=by
 obtain⟨D,h,_⟩:=h;exact h.lt
def Mp.keep{w':At}(h:Mp w b N g)(f:w'.heap[b]? =w.heap[b]?):Mp w' b N g:=by
 obtain⟨D,⟨c,a,d,r⟩,i⟩:=h;exact⟨D,⟨c,a,f.trans d,r⟩,i⟩
def Mp.not_cells(h:Mp w b N g){k:Nat}{cs:Array AA}{T:Cn}{z:Nat × Nat}(d:w.heap[k]? =V (Ay cs T z)):b≠k:=fun e=>by
 obtain⟨D,⟨f,a,c,_⟩,_⟩:=h;rw[e,d] at c;cases c
def Mp.nodup(h:Mp w b N g):N.Nodup:=by obtain⟨_,_,h,_⟩:=h;exact h
def Mp.wf(h:Mp w b N g):∀ x∈N,(Lit.int H x).wf=E:=by obtain⟨_,_,_,h,_⟩:=h;exact h
def Mp.made(w:At)(g:Int->AA):Mp (w.alloc (.map #[] 0)) w.heap.size [] g:=
 ⟨.map [],At.ownsMap_made w _ _ _,List.nodup_nil,fun x a=>absurd a Bu,fun x=>rfl,fun x a=>absurd a Bu⟩
def Mp.len(h:Mp w b N g)(c:Cn):(Builtin.len_ #[107] c #[.map (V b)]).run I w=.ok (.int H N.length) w:=by
 obtain⟨D,a,d,i,f,j⟩:=h;rw[a.len underlying107 c,(Lb a d f).2]
def Mp.look_ok(h:Mp w b N g){x:Int}(s:(Lit.int H x).wf=E):(Instr.lookup 107 (.map (V b)) (.int H x) E).run I w=.ok (AT #[if x∈N then g x else Aw u 0 0,.bool (decide (x∈N))]) w:=by
 obtain⟨D,⟨z,j,r,F,G,rfl⟩,A,B,q,n⟩:=h;rcases Maps.fit_look E iKeyed underlying107 (aO w) r F (Zc s) with⟨i,v,c⟩| ⟨p,y,J,C,i,t,c,_⟩
 . have a:x ∉ N:=fun l=>by
    obtain⟨d,o,f⟩:=n x l;have k:=(c .nil).symm.trans (f .nil);have m:=(c (.lit (.bool E))).symm.trans (f (.lit (.bool E)));rw[<- k] at m;cases m
   rw[AJ a,AM a];exact i
 . have a:x∈N:=by
    have:=q x;rw[Maps.has_true_of_atKey c] at this;exact Ba this.symm
   rw[AG a,AK a];obtain⟨d,o,f⟩:=n x a;have k:y.1=d:=(c .nil).symm.trans (f .nil);have:p.val=g x:=aN (ps:=y.2) (by rw[t,<- k]) o;rw[<- this];exact i
def Mp.look(h:Mp w b N g){x:Int}(c:x∈N):(Instr.lookup 107 (.map (V b)) (.int H x) AN).run I w=.ok (g x) w:=by
 have m:=h.wf x c;obtain⟨D,i,n,o,p,j⟩:=h;obtain⟨v,q,f,a⟩:=i.lookup iKeyed underlying107 (aO w) oW (Zc m);obtain⟨d,l,k⟩:=j x c;rw[k] at a;rw[aN l a];exact f
def Mp.store(h:Mp w b N g){x:Int}(q:(Lit.int H x).wf=E){v:AA}{d:DataW Unit}(hv:hdr v=V (d,[]))(P:N.length<1000000):
 ∃ w',(Instr.mapUpdate 107 (.map (V b)) (.int H x) v).run I w=.ok () w'/\Mp w' b (D9 N x) (fun y=>if y=x then v else g y)/\w.grownBy w' (V b)/\w'.heap.size=w.heap.size:=by
 obtain⟨D,s,t,u,G,J⟩:=h;have p:N.length<maxLen:=by simp only[maxLen];omega
 have C:=s.isMap;have j:WideAt.IsKeyLit (.int H x):=iKeyed.key (Zc q);obtain⟨w',k,m,L,O⟩:∃ w',(Instr.mapUpdate 107 (.map (V b)) (.int H x) v).run I w=.ok () w'/\w'.ownsMap I 3 hdr b (N.length+1) (D.put (.int H x) d)/\w.grownBy w' (V b)/\w'.heap.size=w.heap.size:=by
  obtain⟨w',k,m,A⟩:=s.store iKeyed underlying107 p (Zc q) hv;exact⟨w',k,m,A.grown,by obtain⟨_,_,_,_,_,rfl⟩:=A;simp[ChangeMaps.setBlock]⟩
 refine⟨w',k,ZW m ?_ ?_ ?_ ?_,L,O⟩
 . unfold D9
   split
   . exact t
   . rename_i M
     exact List.nodup_append.2 ⟨t,Ai,fun a K c B e=>M (by simp at B;rw[<- B,<- e];exact K)⟩
 . intro y f
   unfold D9 at f;split at f
   . exact u y f
   . rcases BU.1 f with f|f
     . exact u y f
     . simp at f;subst f;exact q
 . intro y
   have i:y∈D9 N x ↔ y∈N\/y=x:=by
    unfold D9;split
    . exact⟨A4,fun h=>h.elim id fun e=>by rw[e];assumption⟩
    . simp
   by_cases e:y=x
   . subst e
     rw[Maps.has_put_same C j,AK (i.2 (A8 rfl))]
   . rw[Maps.has_put_other (fun l=>e (by cases l;rfl)),G y]
     exact decide_eq_decide.2 ⟨fun h=>i.2 (A4 h),fun h=>(i.1 h).resolve_right e⟩
 . intro y f
   by_cases e:y=x
   . subst e
     exact⟨d,by rw[AG rfl];exact hv,fun z=>Maps.atKey_put_same C j d z⟩
   . have r:y∈N:=by
      unfold D9 at f;split at f
      . exact f
      . exact(BU.1 f).resolve_right fun h=>e (by simpa using h)
     obtain⟨F,o,n⟩:=J y r;exact⟨F,by rw[AJ e];exact o,fun z=>by rw[Maps.atKey_put_other (fun l=>e (by cases l;rfl))];exact n z⟩
end
end
section
open Go.RowKit Go.Shelf
def bu:Go.Shelf.Ren:=⟨fun|5=>87|n=>n,fun|23=>107|24=>107|26=>3|27=>77|0=>0|4=>4|n=>n,fun|n=>n⟩
def tH:Go.Proofs.SlLaysX.n5 I bu:={
 mixed:=Ac,
 f5:=⟨Tryz.f87.name,Af,func87.trans (BF V Ac)⟩,
 t0:=underlying0,
 a0:=isAgg0,
 z0:=sizeOf0,
 v0:=zeroValue0,
 t4:=underlying4,
 a4:=isAgg4,
 z4:=sizeOf4,
 v4:=zeroValue4,
 t23:=underlying107,
 a23:=isAgg107,
 z23:=sizeOf107,
 v23:=zeroValue107,
 t24:=underlying107,
 a24:=isAgg107,
 z24:=sizeOf107,
 v24:=zeroValue107,
 a26:=isAgg3,
 z26:=sizeOf3,
 a27:=isAgg77,
 z27:=sizeOf77 }
def RG:Go.Shelf.Ren:=⟨fun|7=>171|10=>199|n=>n,fun|23=>107|26=>3|3=>77|28=>263|0=>0|27=>259|33=>180|4=>4|n=>n,fun|n=>n⟩
def pI:Go.Proofs.SlLaysZI.n7 I RG:={
 mixed:=Ac,
 f7:=⟨Tryz.f171.name,Af,func171.trans (BF V Ac)⟩,
 f10:=⟨Tryz.f199.name,Af,func199.trans (BF V Ac)⟩,
 t0:=underlying0,
 a0:=isAgg0,
 z0:=sizeOf0,
 v0:=zeroValue0,
 t4:=underlying4,
 a4:=isAgg4,
 z4:=sizeOf4,
 v4:=zeroValue4,
 t23:=underlying107,
 a23:=isAgg107,
 z23:=sizeOf107,
 v23:=zeroValue107,
 t26:=underlying3,
 a26:=isAgg3,
 z26:=sizeOf3,
 v26:=zeroValue3,
 t27:=underlying259,
 a27:=isAgg259,
 z27:=sizeOf259,
 v27:=zeroValue259,
 t28:=underlying263,
 a28:=isAgg263,
 z28:=sizeOf263,
 v28:=zeroValue263,
 t33:=underlying180,
 a33:=isAgg180,
 z33:=sizeOf180,
 v33:=zeroValue180 }
def Oi:Go.Shelf.Ren:=⟨fun|6=>170|8=>197|9=>198|11=>210|13=>212|12=>211|23=>232|24=>233|14=>223|15=>224|16=>225|17=>226|18=>227|19=>228|20=>229|21=>230|22=>231|25=>247|26=>248|27=>249|28=>250|29=>251|30=>252|31=>264|n=>n,fun|26=>3|28=>263|24=>179|0=>0|3=>3|37=>55|48=>105|50=>203|4=>4|40=>315|39=>314|45=>175|5=>5|9=>9|51=>329|55=>227|57=>339|58=>131|33=>180|n=>n,fun|n=>n⟩
def od:Go.Proofs.SlLaysZI.n6 I Oi:={
 mixed:=Ac,
 f6:=⟨Tryz.f170.name,Af,func170.trans (BF V Ac)⟩,
 f8:=⟨Tryz.f197.name,Af,func197.trans (BF V Ac)⟩,
 f11:=⟨Tryz.f210.name,Af,func210.trans (BF V Ac)⟩,
 t0:=underlying0,
 a0:=isAgg0,
 z0:=sizeOf0,
 v0:=zeroValue0,
 t24:=underlying179,
 a24:=isAgg179,
 z24:=sizeOf179,
 v24:=zeroValue179,
 t26:=underlying3,
 a26:=isAgg3,
 z26:=sizeOf3,
 v26:=zeroValue3,
 t28:=underlying263,
 a28:=isAgg263,
 z28:=sizeOf263,
 v28:=zeroValue263,
 i26:=by kernel_rfl }
def dF:Go.Shelf.Ren:=⟨fun|5=>198|8=>212|7=>211|19=>232|20=>233|10=>223|11=>224|12=>225|13=>226|14=>227|15=>228|16=>229|17=>230|18=>231|30=>247|31=>248|32=>249|33=>250|34=>251|35=>252|40=>264|n=>n,fun|23=>179|25=>3|3=>3|32=>55|22=>179|0=>0|44=>105|46=>203|4=>4|36=>315|35=>314|41=>175|5=>5|9=>9|53=>329|57=>227|63=>339|64=>131|n=>n,fun|n=>n⟩
def pF:Go.Proofs.SlLaysM.n5 I dF:={
 mixed:=Ac,
 f5:=⟨Tryz.f198.name,Af,func198.trans (BF V Ac)⟩,
 f7:=⟨Tryz.f211.name,Af,func211.trans (BF V Ac)⟩,
 f8:=func212.trans (BF V Ac),
 f10:=⟨Tryz.f223.name,Af,func223.trans (BF V Ac)⟩,
 f11:=⟨Tryz.f224.name,Af,func224.trans (BF V Ac)⟩,
 f12:=⟨Tryz.f225.name,Af,func225.trans (BF V Ac)⟩,
 f13:=⟨Tryz.f226.name,Af,func226.trans (BF V Ac)⟩,
 f14:=⟨Tryz.f227.name,Af,func227.trans (BF V Ac)⟩,
 f15:=⟨Tryz.f228.name,Af,func228.trans (BF V Ac)⟩,
 f16:=⟨Tryz.f229.name,Af,func229.trans (BF V Ac)⟩,
 f17:=⟨Tryz.f230.name,Af,func230.trans (BF V Ac)⟩,
 f18:=⟨Tryz.f231.name,Af,func231.trans (BF V Ac)⟩,
 f19:=func232.trans (BF V Ac),
 f20:=func233.trans (BF V Ac),
 f30:=⟨Tryz.f247.name,Af,func247.trans (BF V Ac)⟩,
 f31:=func248.trans (BF V Ac),
 f32:=func249.trans (BF V Ac),
 f33:=⟨Tryz.f250.name,Af,func250.trans (BF V Ac)⟩,
 f34:=⟨Tryz.f251.name,Af,func251.trans (BF V Ac)⟩,
 f35:=⟨Tryz.f252.name,Af,func252.trans (BF V Ac)⟩,
 f40:=⟨Tryz.f264.name,Af,func264.trans (BF V Ac)⟩,
 t0:=underlying0,
 a0:=isAgg0,
 z0:=sizeOf0,
 v0:=zeroValue0,
 t3:=underlying3,
 a3:=isAgg3,
 z3:=sizeOf3,
 v3:=zeroValue3,
 t4:=underlying4,
 a4:=isAgg4,
 z4:=sizeOf4,
 v4:=zeroValue4,
 t5:=underlying5,
 a5:=isAgg5,
 z5:=sizeOf5,
 v5:=zeroValue5,
 t9:=underlying9,
 a9:=isAgg9,
 z9:=sizeOf9,
 v9:=zeroValue9,
 t22:=underlying179,
 a22:=isAgg179,
 z22:=sizeOf179,
 v22:=zeroValue179,
 t23:=underlying179,
 a23:=isAgg179,
 z23:=sizeOf179,
 v23:=zeroValue179,
 t25:=underlying3,
 a25:=isAgg3,
 z25:=sizeOf3,
 v25:=zeroValue3,
 t32:=underlying55,
 a32:=isAgg55,
 z32:=sizeOf55,
 v32:=zeroValue55,
 t35:=underlying314,
 a35:=isAgg314,
 z35:=sizeOf314,
 v35:=zeroValue314,
 t36:=underlying315,
 a36:=isAgg315,
 z36:=sizeOf315,
 v36:=zeroValue315,
 t41:=underlying175,
 a41:=isAgg175,
 z41:=sizeOf175,
 v41:=zeroValue175,
 t44:=underlying105,
 a44:=isAgg105,
 z44:=sizeOf105,
 v44:=zeroValue105,
 t46:=underlying203,
 a46:=isAgg203,
 z46:=sizeOf203,
 v46:=zeroValue203,
 t53:=underlying329,
 a53:=isAgg329,
 z53:=sizeOf329,
 v53:=zeroValue329,
 t57:=underlying227,
 a57:=isAgg227,
 z57:=sizeOf227,
 v57:=zeroValue227,
 t63:=underlying339,
 a63:=isAgg339,
 z63:=sizeOf339,
 v63:=zeroValue339,
 t64:=underlying131,
 a64:=isAgg131,
 z64:=sizeOf131,
 v64:=zeroValue131 }
end
section
open Go.RowKit Go.Maps Go.Shelf
def EV(N M:Ab):Ab:=N ++ M.filter fun x=>decide (x ∉ N)
def mem_uniN{N M:Ab}{x:Int}:x∈EV N M ↔ x∈N\/x∈M:=by
 unfold EV;rw[BU,List.mem_filter,Bh];by_cases h:x∈N
 . simp[h]
 . simp[h]
def Zo{N M:Ab}(h:N.Nodup)(k:M.Nodup):(EV N M).Nodup:=by
 refine List.nodup_append.2 ⟨h,k.filter _,fun a b c d e=>?_⟩;have:=(List.mem_filter.1 d).2;rw[Bh] at this;exact this (e ▸ b)
def BW(N:Ab):Ab:=N.mergeSort leI
def LM(N:Ab):(BW N).Perm N:=List.mergeSort_perm N leI
def G9(N:Ab):(BW N).length=N.length:=(LM N).length_eq
def mem_sortN{N:Ab}{x:Int}:x∈BW N ↔ x∈N:=(LM N).mem_iff
def Vu{N:Ab}(h:N.Nodup):(BW N).Nodup:=(LM N).nodup_iff.2 h
def ik{w:At}{bd bs:Nat}{N M:Ab}{g h:Int->AA}(hd:Mp w bd N g)(X:Mp w bs M h)(t:bd≠bs)(v:N.length+M.length<=1000000):
 AH I 87 #[.map (V bd),.map (V bs)] w fun e w'=>e=Av (AT #[])/\Mp w' bd (EV N M) (fun x=>if x∈M then h x else g x)/\Mp w' bs M h/\w.grownBy w' (V bd):=by
 obtain⟨c,F,P,Q,R,S⟩:=hd;obtain⟨E,B,C,K,q,L⟩:=X;have O:=(Lb B C q).2;have i:=AnyX.maps_Copy tH iKeyed hdr bd bs N.length M.length c E w F B t (by rw[O];simp only[maxLen];omega);change AH I 87 _ _ _ at i;refine i.mono ?_;rintro e w' ⟨he,T,U,W⟩;refine⟨he,?_,⟨E,U,C,K,q,L⟩,W⟩;obtain⟨b,rfl,J,r⟩:=B.entries iKeyed;have s:=F.isMap;have o:∀ k,Maps.has (Lib.mergeD c (.map b)) k=(Maps.has c k || Maps.has (.map b) k):=fun k=>Maps.has_foldPut k b c s r
 refine ZW T (Zo P C) ?_ ?_ ?_
 . intro x y
   exact(mem_uniN.1 y).elim (Q x) (K x)
 . intro x
   rw[o,R x,q x];by_cases f:x∈N
   . rw[AK f,AK (mem_uniN.2 (A4 f))];rfl
   . by_cases a:x∈M
     . rw[AK a,AK (mem_uniN.2 (A8 a)),Bool.or_true]
     . rw[AM f,AM a,AM (fun e=>(mem_uniN.1 e).elim f a)];rfl
 . intro x y
   by_cases a:x∈M
   . obtain⟨d,hd,f⟩:=L x a
     refine⟨d,by rw[AG a];exact hd,fun z=>?_⟩;have l:=Maps.atKey_foldPut (.int H x) z b c s r J;have G:(DataW.map b).atKey (.int H x) z=d:=f z;show(b.foldl (fun D p=>D.put p.1 p.2) c).atKey (.int H x) z=d
     cases m:b.find? (fun p=>p.1.sameKey (.int H x)) with
     |none=>
      have n:=q x;rw[AK a,Maps.has_eq,List.any_eq_true] at n;obtain⟨p,j,A⟩:=n;have:=List.find?_eq_none.1 m p j;rw[A] at this;exact absurd rfl this
     |some p=>
      rw[m] at l;simp only[DataW.atKey,m] at G;rw[l];exact G
   . have f:=(mem_uniN.1 y).resolve_right a
     obtain⟨d,hd,Y⟩:=S x f;refine⟨d,by rw[AJ a];exact hd,fun z=>?_⟩;have l:=Maps.atKey_foldPut (.int H x) z b c s r J;show(b.foldl (fun D p=>D.put p.1 p.2) c).atKey (.int H x) z=d
     have m:b.find? (fun p=>p.1.sameKey (.int H x))=u:=List.find?_eq_none.2 fun p j A=>by
      have n:=q x;rw[AM a,Maps.has_eq] at n;have:=List.any_eq_false.1 n p j;exact this A
     rw[m] at l;rw[l];exact Y z
def iB(b:Nat)(w:At):AH I 171 #[.map (V b)] w fun e w'=>e=Av (.func (.func 199) #[] #[Ax (V ⟨w.heap.size,0,u⟩)])/\w'=w.alloc (Ay #[.map (V b)] 107):=by
 have h:=(callsIn_wide (n:=5)).1 (AnyZI.keys_in pI Fence.wide 5 trivial rfl (V b) w);exact h
def rI(m:Nat):AnyZI.SortsIn I Oi Fence.wide m:=
 ⟨fun c d a h W g b f=>callsIn_wide.2 (AnyM.slices_Sort_int pF c d a h W g b f),
  fun p a W=>callsIn_wide.2 (AnyM.slices_Sort_int_none pF p a W)⟩
def U9{w:At}{b p:Nat}{N:Ab}{g:Int->AA}(h:Mp w b N g)(hp:w.heap[p]? =V (Ay #[.map (V b)] 107 (0,0)))(C:N.length<=1000000):
 AH I 170 #[.func (.func 199) #[] #[Ax (V ⟨p,0,u⟩)]] w fun e w'=>∃ v,e=Av v/\IR w' w.heap.size v (BW N)/\AB w.heap.size w w':=by
 obtain⟨D,l,o,A,q,B⟩:=h;obtain⟨a,j⟩:=Lb l o q;have i:p<w.heap.size:=(Au.1 hp).1;have z:w.cell? ⟨p,0,u⟩=V (.map (V b)):=by rw[AD _ _ _ _ _ _ hp];rfl
 have d:SeqGives Fence.wide 2 I 199 #[Ax (V ⟨p,0,u⟩)] encZ (fun f=>f.Perm (intKeys D)) (Maps.size D) w:=
  AnyZI.keys_gives (ρ:=RG) { pI with } Fence.wide _ trivial rfl Aa p b N.length D w i z l
 have k:=AnyZI.sorted_in od Fence.wide 5 trivial trivial trivial trivial rfl Aa (rI _) (enters_of func198 Ac rfl) 199 #[Ax (V ⟨p,0,u⟩)] trivial (enters_of func199 Ac rfl) _ _ (by rw[j];simp only[maxLen];omega) (by rw[j];omega) w d;change CallsIn _ _ I 170 _ _ _ at k;refine(callsIn_wide.1 k).mono ?_;rintro e w' ⟨v,f,he,m,c,n,t⟩;have r:f.mergeSort (fun x y=>decide (x<=y))=BW N:=mergeSort_of_perm_i (m.trans a.symm);have s:f.length=(BW N).length:=by rw[G9,m.length_eq,a.length_eq]
 rw[r,s] at c;refine⟨v,he,?_,t⟩;exact c
end
end Go.Proofs.YtfpdajplfmakhaaGreatDoor
