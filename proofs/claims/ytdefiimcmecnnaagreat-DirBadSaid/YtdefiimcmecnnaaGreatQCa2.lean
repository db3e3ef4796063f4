/- What the law rests on. -/
import Derived.Test.YtdefiimcmecnnaaGreatQC14
import Derived.Test.YtdefiimcmecnnaaGreatQCa1
open Go.Value renaming int->J,slice->q,pointer->B,tuple->E,bool->o,agg->r
open Go.IntKind renaming i64->Y
open Go.Proofs.Tryz renaming prog->U
open Option renaming none->H,some->I
open Go.Ending renaming returned->T
open Go renaming World->A,Value->u,Calls->R
open Go.Obj renaming cells->Ar
open Go.RowKit renaming Below->Q
open Bool renaming false->y,true->z
open Or renaming inr->Ba
namespace Go.Proofs.YtdefiimcmecnnaaGreat
set_option maxHeartbeats 12000000
set_option linter.unusedVariables false
set_option maxRecDepth 100000
open Go.RowKit BM
section
variable {w:A}{P:Nat->Prop}{d p:u}{X:XSt}{S:List Int}{N:List (List Int)}{O:List (Int × Int)}{kk:Nat}{F:Nat->List Int}{bf n sz:Nat}{M:Nat->Option (List Int)}
theorem MR(h:Frd w P d p X S N O kk F bf)(h1:1<=n)(Bu:n<48)(hk:Ca N n≠0)(XE:Ca N n≠2):
 R U 30 #[B (I ⟨bf,0,H⟩),J Y n] w fun e w'=>e=T (E #[q H 0 0,J Y 6])/\Q w.heap.size w w':=by
 have KG0:=GM (W:=w) h.inv h.fs h.tab h1 Bu (AM _ _);have hx:=h.tab.n.get Bu;unfold Ca at hk XE;generalize N.getD n []=x at KG0 hx hk XE;obtain⟨kd,ln,sz,d0,d1,d2,d3,d4,d5,d6,d7,d8,d9,mp,rfl⟩:=JU hx;have XT:(kd==0)=y:=by simpa using hk
 have hk1:(kd != 2)=z:=by simpa using XE
 have KG:Hid (R U 37 #[B (I ⟨bf,0,H⟩),J Y n] w fun e w'=>e=T (E #[r #[J Y kd,J Y ln,J Y sz,J Y d0,J Y d1,J Y d2,J Y d3,J Y d4,J Y d5,J Y d6,J Y d7,J Y d8,J Y d9,J Y mp],J Y 0])/\Q w.heap.size w w'):=vJ KG0;clear KG0 h hx hk XE;go_enter Tryz.func30,Tryz.ntmps30
 go_wp2_with (go_at_call 37;refine KG.out.mono ?_;rintro e w2 ⟨rfl,hb2⟩
              have hb3:=hb2.trans ((Ay w2 (Ar #[J Y kd,J Y ln,J Y sz,J Y d0,J Y d1,J Y d2,J Y d3,J Y d4,J Y d5,J Y d6,J Y d7,J Y d8,J Y d9,J Y mp] 80)).mono hb2.size))
 go_ret2;exact⟨rfl,hb3⟩
theorem Wm(h:Frd w P d p X S N O kk F bf)(h1:1<=n)(Bu:n<48)(hk:Ca N n=0):
 R U 30 #[B (I ⟨bf,0,H⟩),J Y n] w fun e w'=>e=T (E #[q H 0 0,J Y 1])/\Q w.heap.size w w':=by
 have KG0:=GM (W:=w) h.inv h.fs h.tab h1 Bu (AM _ _);have hx:=h.tab.n.get Bu;unfold Ca at hk;generalize N.getD n []=x at KG0 hx hk;obtain⟨kd,ln,sz,d0,d1,d2,d3,d4,d5,d6,d7,d8,d9,mp,rfl⟩:=JU hx;have XT:kd=0:=hk;subst XT;have KG:Hid (R U 37 #[B (I ⟨bf,0,H⟩),J Y n] w fun e w'=>e=T (E #[r #[J Y 0,J Y ln,J Y sz,J Y d0,J Y d1,J Y d2,J Y d3,J Y d4,J Y d5,J Y d6,J Y d7,J Y d8,J Y d9,J Y mp],J Y 0])/\Q w.heap.size w w'):=vJ KG0;clear KG0 h hx hk;go_enter Tryz.func30,Tryz.ntmps30
 go_wp2_with (go_at_call 37;refine KG.out.mono ?_;rintro e w2 ⟨rfl,hb2⟩
              have hb3:=hb2.trans ((Ay w2 (Ar #[J Y 0,J Y ln,J Y sz,J Y d0,J Y d1,J Y d2,J Y d3,J Y d4,J Y d5,J Y d6,J Y d7,J Y d8,J Y d9,J Y mp] 80)).mono hb2.size))
 go_ret2;exact⟨rfl,hb3⟩
end
section
variable {w:A}{f:u}{n er:Int}
theorem Rp(K:R U 30 #[f,J Y n] w fun e w'=>e=T (E #[q H 0 0,J Y er])/\Q w.heap.size w w')(h0:er≠0)(s:ByteArray):
 R U 16 #[f,J Y n,.string s] w fun e w'=>e=T (E #[J Y 0,J Y er])/\Q w.heap.size w w':=by
 have KR:=vJ K;have h1:(er==0)=y:=by simp[h0]
 clear K;go_enter Tryz.func16,Tryz.ntmps16;go_wp2_with (go_at_call 30;(with_reducible refine KR.out.mono ?_);rintro e w2 ⟨rfl,hb2⟩)
 go_ret2;exact⟨rfl,hb2⟩
theorem Rs(K:R U 30 #[f,J Y n] w fun e w'=>e=T (E #[q H 0 0,J Y er])/\Q w.heap.size w w')(h0:er≠0):
 R U 21 #[f,J Y n] w fun e w'=>e=T (E #[q H 0 0,J Y er])/\Q w.heap.size w w':=by
 have KR:=vJ K;have h1:(er==0)=y:=by simp[h0]
 clear K;go_enter Tryz.func21,Tryz.ntmps21;go_wp2_with (go_at_call 30;(with_reducible refine KR.out.mono ?_);rintro e w2 ⟨rfl,hb2⟩)
 go_ret2;exact⟨rfl,hb2⟩
theorem UN(K:R U 30 #[f,J Y n] w fun e w'=>e=T (E #[q H 0 0,J Y er])/\Q w.heap.size w w')(h0:er≠0)(s:ByteArray):
 R U 14 #[f,J Y n,.string s] w fun e w'=>e=T (J Y er)/\Q w.heap.size w w':=by
 have KR:=vJ K;have h1:(er==0)=y:=by simp[h0]
 clear K;go_enter Tryz.func14,Tryz.ntmps14;go_wp2_with (go_at_call 30;(with_reducible refine KR.out.mono ?_);rintro e w2 ⟨rfl,hb2⟩)
 go_ret;exact⟨rfl,hb2⟩
theorem Z4{l:List Int}(K:R U 30 #[f,J Y n] w (gE l w))(hl:l.length<=100000)(D:Bool)(hD:D=z ↔ ∃ O,FrmL O/\DW O=l):
 R U 21 #[f,J Y n] w fun e w'=>(∃ v,e=T (E #[v,J Y (if D=z then 0 else 3)]))/\Q w.heap.size w w':=by
 cases D
 . have hn:¬ ∃ O,FrmL O/\DW O=l:=fun h=>by have:=hD.2 h;cases this
   refine(Rs (er:=3) (K.mono ?_) (by decide)).mono fun e w' ⟨he,hb⟩=>⟨⟨_,he⟩,hb⟩
   rintro e w' (⟨O,a,b,_⟩| ⟨_,he,hb⟩)
   . exact absurd ⟨O,a,b⟩ hn
   . exact⟨he,hb⟩
 . obtain⟨O0,a0,b0⟩:=hD.1 rfl
   have hlen:O0.length<=1000000:=(by have:=DG a0;rw[b0] at this;omega);have KR:Hid (R U 30 #[f,J Y n] w fun e w'=>∃ v O,e=T (E #[v,J Y 0])/\ER w' w.heap.size 38 v O/\O.length<=1000000/\Q w.heap.size w w'):=vJ (K.mono (by
    rintro e w' (⟨O,a,b,v,he,hv,hb⟩| ⟨hn,_⟩)
    . have hx:=DG a
      rw[b] at hx;exact⟨v,O,he,hv,by omega,hb⟩
    . exact absurd ⟨O0,a0,b0⟩ hn))
   have KS:Hid (∀ (V:A) (v:u) (O:List BC),Q w.heap.size w V->ER V w.heap.size 38 v O->O.length<=1000000->R U 43 #[v,Fy] V fun e w'=>e=T (E #[])/\Q w.heap.size w w'):=vJ fun V v O hV hv hO=>by
    refine(RJ hv hO).mono ?_;rintro e w' ⟨he,Z,z1,z2,z3,z4⟩;have:=hV.size;exact⟨he,hV.trans (z4.mono (by omega))⟩
   rw[AC rfl];clear K hD a0 b0 hlen hl;go_enter Tryz.func21,Tryz.ntmps21
   go_wp2_with (first
    |(go_at_call 30;(with_reducible refine KR.out.mono ?_);rintro e w2 ⟨v,O,rfl,hv,hO,hb2⟩;obtain⟨ao,cap,rfl⟩:=hv.sl.shape;have KS2:=vJ (KS.out _ _ _ hb2 hv hO);clear hv hb2)
    |(go_at_call 43;(with_reducible refine KS2.out.mono ?_);rintro e w3 ⟨rfl,hb3⟩))
   go_ret2;exact⟨⟨_,rfl⟩,hb3⟩
end
def tf(l:List Int)(k:Nat):Prop:=∀ j,j<k->tm ((l.drop (16*j)).take 16)
theorem Wq{l:List Int}(M0:l.length%16=0):tf l (l.length / 16) ↔ ∃ O,FrmL O/\DW O=l:=by
 constructor
 . intro h
   obtain⟨k,hk⟩:=nm (l.length / 16);have hkl:l.length=16*k:=(by omega);rw[<- hk] at h;have hall:∀ m,m<=k->∃ O:List BC,FrmL O/\O.length=m/\DW O=l.take (16*m):=fun m=>by
    induction m with
    |zero=>intro _;exact⟨[],(fun e he=>by cases he),rfl,by simp[DW]⟩
    |succ m ih=>
     intro hm;obtain⟨O,o1,o2,o3⟩:=ih (by omega);have hr:=h m (by omega);refine⟨O ++ [So ((l.drop (16*m)).take 16)],o1.append hr.2.1,by rw[Ax,o2];rfl,?_⟩;have e1:DW (O ++ [So ((l.drop (16*m)).take 16)])=DW O ++ Db (So ((l.drop (16*m)).take 16)):=(by simp[DW]);rw[e1,o3,hr.2.2,show 16*(m+1)=16*m+16 by omega,List.take_add]
   obtain⟨O,o1,_,o3⟩:=hall k (AB _);exact⟨O,o1,by rw[o3,AV (by omega)]⟩
 . rintro⟨O,o1,rfl⟩ j hj
   rw[DG o1] at hj;have oQ:j<O.length:=(by omega);rw[Le o1 oQ];exact mO (o1 _ (Bf oQ))
theorem WM(G:List (List Int)):Fat G (WD 1) iM 1 0 fun _=>H:=by
 have hz:∀ i,i<139->BJ ((WD 1).getD 1 []) (iM 1) i=0:=fun i hi=>Un (c:=1) (m:=1) (by decide) (by decide) hi
 refine⟨Ba (FS (c:=1) (m:=1) (by decide) (by decide)),by rw[Qp 1 1 (by decide)];rfl,by omega,fun i hi=>by rw[AC (hz i (by omega))],fun _ _=>rfl,?_,⟨fun i l e=>(by cases e),fun i l e=>(by cases e)⟩⟩;constructor
 . intro e;exact absurd (hz 138 (by decide)) e
 . rintro⟨b,a1,a2,a3⟩;exact absurd (hz b (by omega)) a3
def Bd1(w0:A)(d p:u)(bf:Nat)(w:A):Prop:=
 ∃ P X,Fmd w P d p X (Ed 1) (WD 1) (FE 1) 1 iM bf/\PutS X (RX (Ed 1) 1 1 0)/\(∀ x,P x->w0.heap.size<=x)/\Q w0.heap.size w0 w
def Bd2(w0:A)(d p:u)(bf:Nat)(l:List Int)(w:A):Prop:=
 ∃ P X N O F M,Frd w P d p X (Ed 1) N O 1 F bf/\Fat X.cur N F 1 l.length M/\Ca N 1=2/\Ca N 2=1/\Md M 0 l.length=l/\Q w0.heap.size w0 w
section
variable {w0 w:A}{d p:u}{bf:Nat}{l:List Int}{P:Nat->Prop}
theorem Tsd.make{X:XSt}{b:Nat}(h:Tsd w0 w P d (B (I ⟨b,0,H⟩)) X (Ed 1) newN (FE 1) 1 bf):R U 9 #[B (I ⟨b,0,H⟩)] w fun e w'=>e=T (J Y 0)/\FsAt w' bf (B (I ⟨b,0,H⟩))/\
 R U 20 #[B (I ⟨bf,0,H⟩),J Y 1] w' fun e w''=>e=T (E #[J Y 2,J Y 0])/\Bd1 w0 d (B (I ⟨b,0,H⟩)) bf w'':=by
 have hf:Fsd w0 w P d (B (I ⟨b,0,H⟩)) X (Ed 1) (WD 0) (FE 1) 1 iM bf:=⟨h.inv,h.wi,h.fu,⟨h.has,h.ok,h.tab,V4 (by decide) _⟩,WX (by decide) (by decide),h.fs,h.nb,h.bN,h.pN,h.be⟩;refine hf.begin.mono ?_;rintro e w' ⟨he,P',hs,hm,hc⟩;refine⟨he,hs.fs,?_⟩;refine(YG hm.inv hm.wi (by show([]:List Int).length<37;decide) hm.fs hm.pl.tab (k7 (c:=0) (by decide)) (k:=1) (by decide) (AM _ _)).mono ?_;rintro e w'' ⟨he,P2,hi,hg⟩;obtain⟨hfs,IH⟩:=hm.fs.chg hg hm.nb;have hs2:=hs.next hi hm.wi ⟨rfl,rfl⟩ hg;exact⟨he,P2,_,⟨hi,hm.wi,hm.pl.make (by omega) (by omega) rfl (by decide),hm.st,hfs,IH⟩,(WL X _).add (R4 (Ed 1) 1 1 0).t rfl,hs2.pN,hs2.be⟩
theorem Bd1.low(h:Bd1 w0 d p bf w){w':A}(hb:Q w.heap.size w w'):Bd1 w0 d p bf w':=by
 obtain⟨P,X,a,b,c,e⟩:=h;exact⟨P,X,a.low hb,b,c,e.trans (hb.mono e.size)⟩
theorem Bd1.find2(h:Bd1 w0 d p bf w)(s:ByteArray):R U 16 #[B (I ⟨bf,0,H⟩),J Y 2,.string s] w fun e w'=>e=T (E #[J Y 0,J Y 6])/\Bd1 w0 d p bf w':=by
 have h0:=h;obtain⟨P,X,a,_⟩:=h;have hk:Ca (WD 1) 2=1:=FS (c:=1) (m:=2) (by decide) (by decide);exact(Rp (n:=((2:Nat):Int)) (MR a.rd (n:=2) (by decide) (by decide) (by rw[hk];decide) (by rw[hk];decide)) (by decide) s).mono fun e w' ⟨he,hb⟩=>⟨he,h0.low hb⟩
theorem Bd1.list2(h:Bd1 w0 d p bf w):R U 21 #[B (I ⟨bf,0,H⟩),J Y 2] w fun e w'=>e=T (E #[q H 0 0,J Y 6])/\Bd1 w0 d p bf w':=by
 have h0:=h;obtain⟨P,X,a,_⟩:=h;have hk:Ca (WD 1) 2=1:=FS (c:=1) (m:=2) (by decide) (by decide);exact(Rs (n:=((2:Nat):Int)) (MR a.rd (n:=2) (by decide) (by decide) (by rw[hk];decide) (by rw[hk];decide)) (by decide)).mono fun e w' ⟨he,hb⟩=>⟨he,h0.low hb⟩
theorem Bd1.find40(h:Bd1 w0 d p bf w)(s:ByteArray):R U 16 #[B (I ⟨bf,0,H⟩),J Y 40,.string s] w fun e w'=>e=T (E #[J Y 0,J Y 1])/\Bd1 w0 d p bf w':=by
 have h0:=h;obtain⟨P,X,a,_⟩:=h;have hk:Ca (WD 1) 40=0:=FS (c:=1) (m:=40) (by decide) (by decide);exact(Rp (n:=((40:Nat):Int)) (Wm a.rd (n:=40) (by decide) (by decide) hk) (by decide) s).mono fun e w' ⟨he,hb⟩=>⟨he,h0.low hb⟩
theorem Bd1.write(h:Bd1 w0 d p bf w){v:u}(hv:BSl w0 v l)(hl:l.length<=1024):R U 22 #[B (I ⟨bf,0,H⟩),J Y 1,J Y 0,v] w fun e w'=>e=T (E #[J Y l.length,J Y 0])/\Bd2 w0 d p bf l w':=by
 obtain⟨P,X,a,b,c,e⟩:=h;have FH:num ((WD 1).getD 1 []) 13=0:=Un (c:=1) (m:=1) (i:=138) (by decide) (by decide) (by decide);have hc:Dm (FE 1) (64*1)=6:=aH 1 (by decide) (by decide);have hf:Flt w P d p X (Ed 1) (WD 1) (FE 1) 1 iM bf 1 0 (fun _=>H) (RX (Ed 1) 1 1 0):=⟨a,WM _,b,by rw[FH];exact R4 _ _ _ _,by rw[hc];decide⟩;have hok:OkB fun _=>H:=(WM []).ok
 have hbt:FJ l:=hv.1;have XD:=qD (a:=0) (n:=l.length) hl;have hu:DL (wrL (fun _=>H) 0 l)<=4:=S4 (fun i hi=>RV _ _ _ rfl fun j hj=>by omega) (by decide);have Ol:DL (fun _=>H)=0:=by decide
 refine(Rh hf (by decide) (by decide) (hv.below e) (Apt.of_lt hv c) (a:=0) (C:=l.length) (by omega) (by omega) (by rw[SH];omega) (by omega)).mono ?_;intro e1 w' ho;unfold vF at ho;rw[AV (AB _)] at ho;rcases ho with⟨he,_,P',X',N',O',F',Q',g,gs,_,_,hg,_⟩| ⟨_,hn,_⟩
 . refine⟨he,P',X',N',O',F',wrL (fun _=>H) 0 l,g.md.rd,?_,gs.kd.trans (FS (c:=1) (m:=1) (by decide) (by decide)),?_,?_,?_⟩
   . rw[g.md.cur]
     have:=g.ft;have e3:(if l.length=0 then 0 else max 0 (0+l.length))=l.length:=by split <;> omega
     rw[e3] at this;exact this
   . unfold Ca
     rw[gs.oth 2 (by decide)];exact FS (c:=1) (m:=2) (by decide) (by decide)
   . have:=UP hok hbt (a:=0) (n:=0) (AB 0)
     rw[show max 0 (0+l.length)=l.length by omega] at this;rw[this];simp[splice,Md]
   . exact e.trans (hg.below fun x hx=>⟨AH hx e.size,fun hm=>by have:=c x hm;omega⟩)
 . refine absurd ?_ hn
   unfold Fp;rw[hc,Ol];omega
theorem Bd2.low(h:Bd2 w0 d p bf l w){w':A}(hb:Q w.heap.size w w'):Bd2 w0 d p bf l w':=by
 obtain⟨P,X,N,O,F,M,a,b,c,e,f,g⟩:=h;exact⟨P,X,N,O,F,M,a.low hb,b,c,e,f,g.trans (hb.mono g.size)⟩
theorem Bd2.be(h:Bd2 w0 d p bf l w):Q w0.heap.size w0 w:=by
 obtain⟨P,X,N,O,F,M,a,b,c,e,f,g⟩:=h;exact g
theorem Bd2.list(h:Bd2 w0 d p bf l w)(hl:l.length<=1024)(D:Bool)(hD:D=z ↔ ∃ O,FrmL O/\DW O=l):R U 21 #[B (I ⟨bf,0,H⟩),J Y 1] w fun e w'=>(∃ v,e=T (E #[v,J Y (if D=z then 0 else 3)]))/\Bd2 w0 d p bf l w':=by
 have h0:=h;obtain⟨P,X,N,O,F,M,a,b,c,e,f,g⟩:=h;have:=SN a b c (n:=1) (by decide) (by decide);rw[f] at this;exact(Z4 (n:=((1:Nat):Int)) this (by omega) D hD).mono fun e w' ⟨he,hb⟩=>⟨he,h0.low hb⟩
theorem Bd2.rem(h:Bd2 w0 d p bf l w)(s:ByteArray):R U 14 #[B (I ⟨bf,0,H⟩),J Y 2,.string s] w fun e w'=>e=T (J Y 6)/\Q w0.heap.size w0 w':=by
 obtain⟨P,X,N,O,F,M,a,b,c,e,f,g⟩:=h;exact(UN (n:=((2:Nat):Int)) (MR a (n:=2) (by decide) (by decide) (by rw[e];decide) (by rw[e];decide)) (by decide) s).mono fun e w' ⟨he,hb⟩=>⟨he,g.trans (hb.mono g.size)⟩
end
def vn(l:List Int)(D:Bool)(i:Nat):Prop:=i%16=0/\i<=l.length+16/\(D=z->i<=l.length/\l.length%16=0/\tf l (i / 16))/\(D=y->¬ ∃ O,FrmL O/\DW O=l)
theorem bad16_of{w:A}(s:ByteArray){v:u}{l:List Int}(hv:BSl w v l)(t:Int):R U 4 #[.string s,v,J .u8 t] w fun e w'=>e=T (o z)/\Q w.heap.size w w':=by
 have KA:=vJ Lx;have KM:=vJ fun(V:A) (hV:Q w.heap.size w V)=>bm (kk:=1) (by decide) (by decide) w hV
 rw[show(64*((1:Nat):Int))=64 from rfl] at KM;obtain⟨ao,cap,rfl,Cm⟩:=hv.shape;obtain⟨L,hL⟩:=nm l.length;have HV:Hid (BSl w (q ao L cap) l):=vJ (by rw[hL];exact hv);have HL:=vJ hL;rw[<- hL];clear hv hL Cm;by_cases EJ:1024<L
 . have hbz:(1024:Int)<(L:Int):=by omega
   clear KM;go_enter Tryz.func4,Tryz.ntmps4
   go_wp2_with (first
    |(go_at_call 6;(with_reducible refine(KA.out w).mono ?_);rintro e w2 ⟨rfl,hb2⟩)
    |(go_at_call 6;refine(KA.out _).mono ?_;rintro e w4 ⟨rfl,hb4⟩))
   go_ret;exact⟨rfl,hb2.trans (hb4.mono hb2.size)⟩
 . rcases Nat.eq_zero_or_pos L with h0|IK
   . subst h0
     clear KM;go_enter Tryz.func4,Tryz.ntmps4
     go_wp2_with (first
      |(go_at_call 6;(with_reducible refine(KA.out w).mono ?_);rintro e w2 ⟨rfl,hb2⟩)
      |(go_at_call 6;refine(KA.out _).mono ?_;rintro e w4 ⟨rfl,hb4⟩))
     go_ret;exact⟨rfl,hb2.trans (hb4.mono hb2.size)⟩
   . have hbz:¬ (1024:Int)<(L:Int):=by omega
     have hpz:¬ (L:Int)=0:=(by omega);have hpz2:((L:Int)==0)=y:=beq_false_of_ne hpz;have hp0:¬ L=0:=(by omega);have hbd:decide ((1024:Int)<(L:Int))=y:=AG hbz;have sM:decide (L=0)=y:=AG hp0;have HLM:Hid (l.length<=1024):=vJ (by have:=HL.out;omega);obtain⟨vb,vo,cap',rM,Cm,_⟩:=HV.out.open' (by have:=HL.out;omega);obtain⟨h1,-,h3⟩:=A0 rM;subst h1;subst h3;have hLl:L<=cap:=(by have:=HL.out;omega);clear rM Cm;obtain⟨D0,hD0⟩:=nm (decide (L%16=0));have HD0:=vJ hD0;have uP:((L:Int)%16==0)=D0:=by
      rw[hD0];by_cases h:L%16=0
      . rw[AF h];exact beq_iff_eq.2 (by omega)
      . rw[AG h];exact beq_false_of_ne (by omega)
     have HTM:=vJ uP;clear uP;clear hD0;go_enter Tryz.func4,Tryz.ntmps4
     go_upto_region 10 with(first
      |(go_at_call 6;(with_reducible refine(KA.out w).mono ?_);rintro e w2 ⟨rfl,hb2⟩)
      |(go_at_call 8;refine(KM.out _ hb2).mono ?_;rintro e w3 ⟨b,rfl,hb3,KN⟩)
      |(go_at_call 7;refine KN.mono ?_;rintro e w4 ⟨bf,P4,d,X4,rfl,ht4,_⟩;have c4:=ht4.fs.cell;have KB:=vJ ht4.make;clear KN hb3 ht4 hb2)
      |(go_at_call 9;refine KB.out.mono ?_;rintro e w5 ⟨rfl,hf5,KM5⟩;have KM6:=vJ KM5;clear KB hf5 KM5)
      |(go_at_call 20;refine KM6.out.mono ?_;rintro e w6 ⟨rfl,h6⟩;have KF6:=vJ (h6.find2 s);clear KM6 h6)
      |(go_at_call 16;refine KF6.out.mono ?_;rintro e w7 ⟨rfl,h7⟩;have KL7:=vJ h7.list2;clear KF6 h7)
      |(go_at_call 21;refine KL7.out.mono ?_;rintro e w8 ⟨rfl,h8⟩;have KF8:=vJ (h8.find40 s);clear KL7 h8)
      |(go_at_call 16;refine KF8.out.mono ?_;rintro e w9 ⟨rfl,h9⟩;have KW9:=vJ (h9.write HV.out HLM.out);rw[<- HL.out] at KW9;clear KF8 h9))
     go_upto_region 11 with(go_at_call 22;refine KW9.out.mono ?_;rintro e w10 ⟨rfl,Gm⟩;have H10:=vJ Gm;clear KW9 Gm)
     go_upto_region 12 with(fail)
     rw[HTM.out];have HI0:Hid (vn l D0 0):=vJ ⟨rfl,AX _,fun h=>⟨AX _,by rw[HD0.out] at h;have:=A7 h;rw[HL.out] at this;exact this,fun j hj=>absurd hj (A8 j)⟩,fun h=>by
      rintro⟨O,o1,o2⟩;have h2:=DG o1;rw[HD0.out] at h;have:=BL h;rw[o2,<- HL.out] at h2;omega⟩
     clear HTM;go_wp2;go_loopw [18,19] (fun t18 t19 wr=>∃ (D:Bool) (i:Nat),t18=o D/\t19=J Y i/\Hid (vn l D i)/\Hid (Q w10.heap.size w10 wr)) (fun t18 t19 _=>match t18 with |o z=>L+17-(intOf t19).toNat|_=>0)
     case atStart=>exact⟨D0,0,rfl,rfl,HI0,vJ (AM _ _)⟩
     case round=>
      obtain⟨D,i,rfl,rfl,HI,HB⟩:=hrel;have HBW:=vJ (H10.out.low HB.out);clear HI0;cases D
      . have KL:=vJ (HBW.out.list HLM.out y ⟨fun h=>(by cases h),fun h=>absurd h (HI.out.2.2.2 rfl)⟩)
        rw[AE (by decide)] at KL
        go_wp2_with (first
         |(go_at_call 21;refine KL.out.mono ?_;rintro e w11 ⟨⟨vl,rfl⟩,h11⟩;have KRm:=vJ (h11.rem s);clear h11)
         |(go_at_call 14;refine KRm.out.mono ?_;rintro e w12 ⟨rfl,hb12⟩))
        go_ret;exact⟨rfl,hb12⟩
      . by_cases hlt:i<L
        . have hiz:(i:Int)<(L:Int):=by omega
          have M0:i+16<=L:=(by have h9:=HI.out.2.2.1 rfl;have h8:=HI.out.1;have:=HL.out;omega);have h16z:(i:Int)+16<=(L:Int):=(by omega);obtain⟨c,hc⟩:=nm ((l.drop i).take 16);have hcl:c.length=16:=(by rw[hc,AK,AU];have:=HL.out;omega);have va:c.take 16=c:=AV (by omega);have cG:c=(l.drop (16*(i / 16))).take 16:=(by rw[hc,show 16*(i / 16)=i by have:=HI.out.1;omega]);have HCE:=vJ cG;have Om:∀ V,Q w.heap.size w V->BSl V (q (I ⟨vb,vo+i,H⟩) 16 (cap-i)) c:=fun V hV=>by
           have h1:=HV.out.below hV;rw[HL.out] at h1;rw[hc];exact h1.mid i 16 (by have:=HL.out;omega)
          have hne:¬ cap=i:=(by omega);have hne2:cap≠i:=hne;by_cases hok:tm c
          . have KR:Hid (∀ V,Q w.heap.size w V->R U 23 #[q (I ⟨vb,vo+i,H⟩) 16 (cap-i)] V fun e w'=>e=T (E #[r #[J Y (So c).1,.string (So c).2],o z])/\Q V.heap.size V w'):=vJ fun V hV=>by
             have:=(S5 (Om V hV) (by omega) (by omega)).2 (by rw[va];exact hok);rw[va] at this;exact this
            have HN:Hid (vn l z (i+16)):=vJ ⟨by have:=HI.out.1;omega,by have:=HL.out;omega,fun _=>⟨by have:=HL.out;omega,(HI.out.2.2.1 rfl).2.1,fun j hj=>by
             by_cases e:j=i / 16
             . rw[e,<- HCE.out];exact hok
             . exact(HI.out.2.2.1 rfl).2.2 j (by omega)⟩,fun h=>by cases h⟩
            clear hc hcl va cG Om hok;go_wp2_with (go_at_call 23;refine(KR.out _ HBW.out.be).mono ?_;rintro e w11 ⟨rfl,hb11⟩;have HB11:=vJ (HB.out.trans (hb11.mono HB.out.size));clear hb11)
            go_roundw
            case rel=>exact⟨z,i+16,rfl,by go_num,HN,HB11⟩
            case measure=>simp[intOf];omega
          . have KR:Hid (∀ V,Q w.heap.size w V->R U 23 #[q (I ⟨vb,vo+i,H⟩) 16 (cap-i)] V fun e w'=>(∃ i s,e=T (E #[r #[J Y i,.string s],o y]))/\Q V.heap.size V w'):=vJ fun V hV=>(S5 (Om V hV) (by omega) (by omega)).1 (by rw[va];exact hok)
            have HN:Hid (vn l y (i+16)):=vJ ⟨by have:=HI.out.1;omega,by have:=HL.out;omega,fun h=>(by cases h),fun _ hx=>hok (by
             have h1:=(Wq (HI.out.2.2.1 rfl).2.1).2 hx (i / 16) (by have:=HL.out;have:=HI.out.1;omega);rw[<- HCE.out] at h1;exact h1)⟩
            clear hc hcl va cG Om hok;go_wp2_with (go_at_call 23;refine(KR.out _ HBW.out.be).mono ?_;rintro e w11 ⟨⟨x1,s1,rfl⟩,hb11⟩;have HB11:=vJ (HB.out.trans (hb11.mono HB.out.size));clear hb11)
            go_roundw
            case rel=>exact⟨y,i+16,rfl,by go_num,HN,HB11⟩
            case measure=>simp[intOf];omega
        . have hiz:¬ (i:Int)<(L:Int):=by omega
          have KL:=vJ (HBW.out.list HLM.out z ⟨fun _=>(Wq (HI.out.2.2.1 rfl).2.1).1 (by have h9:=HI.out.2.2.1 rfl;have:=HL.out;rw[show l.length / 16=i / 16 by omega];exact h9.2.2),fun _=>rfl⟩);rw[AC rfl] at KL
          go_wp2_with (first
           |(go_at_call 21;refine KL.out.mono ?_;rintro e w11 ⟨⟨vl,rfl⟩,h11⟩;have KRm:=vJ (h11.rem s);clear h11)
           |(go_at_call 14;refine KRm.out.mono ?_;rintro e w12 ⟨rfl,hb12⟩))
          go_ret;exact⟨rfl,hb12⟩
end Go.Proofs.YtdefiimcmecnnaaGreat
