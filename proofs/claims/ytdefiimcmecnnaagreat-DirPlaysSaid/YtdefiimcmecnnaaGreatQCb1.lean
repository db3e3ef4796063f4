/- What the law rests on. -/
import Derived.Test.YtdefiimcmecnnaaGreatQC13
open Go.Value renaming int->J,slice->Ak,pointer->Am,tuple->AO,bool->A1,agg->BD
open Go.IntKind renaming i64->H
open Go.Proofs.Tryz renaming prog->Ae
open Option renaming none->U,some->I
open Go.Ending renaming returned->Ag
open Go renaming World->Ah,Value->Aq,Calls->AA,Oper->BS,wpList->Cn
open List renaming getElem_cons_zero->Ao,getElem_cons_succ->Ap,replicate->AD,nil_append->B0,length_cons->Ch
open Go.Obj renaming cells->Ar
open Go.RowKit renaming Below->At
open Bool renaming false->AI,true->AL
open Or renaming inl->AN,inr->Ba
open Go.Act renaming put->AR
open Int renaming toNat_natCast->B5
open Go.Proofs.Tryz
namespace Go.Proofs.YtdefiimcmecnnaaGreat
set_option maxHeartbeats 12000000
set_option linter.unusedVariables false
set_option maxRecDepth 100000
section
open Go.RowKit
theorem Iq{w:Ah}{ops:Array BS}{rest:List BS}{o:BS}{a:Act}{Q:Exit->Act->Ah->Prop}(Dn:o.guard=U)(x lo:Operand)(ho:o.op=.slice 49 x (I lo) U U)
 (b off n cap:Nat) (hx:a.eval x=Ak (I ⟨b,off,U⟩) n cap) (L:Int) (hl:a.eval lo=J H L) (l:Nat) (hL:L=l) (h1:l<=n) (h2:n<=cap) (h3:l<cap)
 (hK:Cn Ae ops Q rest (a.put o.dst (Ak (I ⟨b,off+l,U⟩) (n-l) (cap-l))) w):Cn Ae ops Q (o :: rest) a w:=by
 subst hL;refine CM Dn fun K hK'=>?_
 unfold BS.wp execOp;simp only[ho,hx,hl,Option.map_some,Option.map_none,Ew w b off n cap l n U (AN ⟨rfl,rfl⟩) h1 h2 h3,DE,Sem.run_pure,Result.andThen_ok];exact hK' _ _ hK
section
variable {w w':Ah}{B g cap:Nat}{v:Aq}{l:List Int}{T:TypeId}{rest:List Aq}
theorem oz(w:Ah):(zeroValue 5).run Ae w=.ok (J .u8 0) w:=by
 obtain⟨t,h2,h3,_⟩:=By F7;simp[zeroValue,typeInfo,h2,h3,Result.andThen]
theorem Rw.clear(h:Rw w B v l g cap T rest){o n c:Nat}(hn:0<n)(ho:o+n=256):
 ∃ w',(∀ ty,(Builtin.clear_ #[49] ty #[Ak (I ⟨g,o,U⟩) n c]).run Ae w=.ok (AO #[]) w')/\Wrote w w' g/\Rw w' B v (splice l o (AD n 0)) g cap T rest:=by
 have hl:=h.len;have hrow:=h.row;have hlen:(l.map (J .u8) ++ rest).length=256+rest.length:=by rw[Ax,Bk,hl]
 have hth:=DX hrow (o:=o) (n:=n) (by rw[hlen];omega);have e:(AD n 0).map (J .u8)=AD n (J .u8 0):=List.map_replicate;have hs:=DH hrow (o:=o) (vs:=AD n (J .u8 0)) (by rw[A4,hlen];omega) (fun v hv=>by rw[BR hv];rfl);refine⟨_,fun ty=>Lib.run_clear_slice w 49 5 ty (J .u8 0) underlying49 oz rfl rfl g o n c hn (fun j hj=>(hth j hj).1) (fun j hj=>(hth j hj).2),?_,?_⟩
 . rw[hs];exact Wrote.setRow w g _
 . rw[hs]
   refine h.wrote (CW n) (by rw[A4];omega) ?_;rw[Cr _ _ _ _ _ _ hrow,e]
end
end
section
open Go.RowKit BM
section
variable {w:Ah}{P:Nat->Prop}{d p:Aq}{X:XSt}{O:List (Int × Int)}{k:Nat}
theorem jA:(Ae.info? 165).map (·.size)=I 2:=by kernel_rfl
theorem Wb(h:SInv w P d p X)(hH:Has X.cur O k)(hO:OOk O k){n:Nat}(hn:n<64*k):
 AA Ae 202 #[p,J H n] w fun e w'=>e=Ag (AO #[BD #[J .u16 (O.getD n (0,0)).1,J .u16 (O.getD n (0,0)).2],J H 0])/\At w.heap.size w w':=by
 have h12:=hO.k12;obtain⟨g,hg⟩:=nm (n / 64);obtain⟨j,hj⟩:=nm (n%64);have lN:g<k:=by omega
 have sj:j<64:=by omega
 have hnj:n=64*g+j:=by omega
 have KP:=vJ (Oo (n:Int) AL (AF (by omega)));have KG:=vJ (fun(W:Ah)=>JY (n:Int) (by omega) W);have eg:II (n:Int)=g:=by unfold II;rw[AE (by omega)];omega
 rw[eg] at KG;have hb1:=Ay w (Ar #[J .u16 0,J .u16 0] 165);have hr1:=Aw w (Ar #[J .u16 0,J .u16 0] 165);obtain⟨W1,hW1⟩:=nm (w.alloc (Ar #[J .u16 0,J .u16 0] 165));rw[<- hW1] at hb1 hr1;have KR:=vJ (Oz (h.low hb1) hH hO lN);have SG:w.heap.size<W1.heap.size:=by rw[hW1];simp
 have e1:=Jf O g sj;rw[<- hnj] at e1
 have KR2:Hid (AA Ae 218 #[p,J H g] W1 fun e w'=>∃ b cap,e=Ag (AO #[Ak (I ⟨b,0,U⟩) 64 cap,J H 0])/\b<w'.heap.size/\
  w'.cell? ⟨b,j*2,U⟩=I (J .u16 (O.getD n (0,0)).1)/\w'.cell? ⟨b,j*2+1,U⟩=I (J .u16 (O.getD n (0,0)).2)/\At W1.heap.size W1 w'):=vJ (KR.out.mono fun e w' ⟨b,cap,h1,h2,h3,_,h4,h5⟩=>⟨b,cap,h1,h3,by rw[<- e1];exact(h4 j sj).1,by rw[<- e1];exact(h4 j sj).2,h5⟩)
 obtain⟨x,hx⟩:=nm ((O.getD n (0,0)).1);obtain⟨y,hy⟩:=nm ((O.getD n (0,0)).2);rw[<- hx,<- hy] at KR2 |-
 have H1:=vJ hW1.symm;have HR1:=vJ hr1;have HB1:=vJ hb1;have hrem:(n:Int).tmod 64=j:=by rw[D9 (by omega)];omega
 have ej:(j:Int)<64:=by omega
 have HM:Hid (w.heap.size<W1.heap.size):=vJ SG;clear h hH hO hn h12 hg hj lN hnj eg KR e1 hx hy hW1 hr1 hb1 SG;go_enter func202,ntmps202
 go_wp2_with (first
  |(go_at_call 216;refine(KP.out _).mono ?_;rintro e w' ⟨rfl,rfl⟩)
  |(go_at_call 219;refine(KG.out _).mono ?_;rintro e w' ⟨rfl,rfl⟩)
  |(go_at_call 218;rw[H1.out];refine KR2.out.mono ?_;rintro e w2 ⟨b,cap,rfl,hbl,c1,c2,hb2⟩;have hr2:=BA HR1.out hb2)
  |(with_reducible refine Fb rfl 165 jA (.tmp 4) (.tmp 27) rfl w.heap.size rfl _ _ _ _ rfl rfl rfl _ hr2 ?_;intro w5 hw5 E3))
 refine Bv (Ia rfl underlying165 jA _ _ w.heap.size _ _ _ _ rfl E3 rfl) rfl ⟨rfl,(HB1.out.trans (hb2.mono (BO HM.out))).trans (hw5.below (AB _))⟩
end
theorem Ys{W:Ah}{bf:Nat}{p:Aq}{n:Int}{R:Int->Ah->Prop}(hf:FsAt W bf p)(hK:AA Ae 188 #[p,J H n] W fun e w'=>∃ E:Int,e=Ag (J H E)/\R E w'):
 AA Ae 161 #[Am (I ⟨bf,0,U⟩),J H n] W fun e w'=>∃ E:Int,e=Ag (J H E)/\R E w':=by
 have KB:=vJ (G8 hf);have KG:=vJ hK;clear hf hK;go_enter func161,ntmps161
 go_wp2_with (first
  |(go_at_call 84;refine KB.out.mono ?_;rintro e w' ⟨rfl,rfl⟩)
  |(go_at_call 188;refine KG.out.mono ?_;rintro e w2 ⟨E,rfl,hr⟩))
 go_ret;exact⟨E,rfl,hr⟩
theorem mj{i j:Nat}(hi:i<139)(hj:j<139)(h:IP i=IP j):i=j:=by unfold IP at h;split at h <;> split at h <;> omega
section
variable {Ex:Nat->Nat->Prop}{G:List (List Int)}{S:List Int}{N:List (List Int)}{O:List (Int × Int)}{kk:Nat}{F:Nat->List Int}
theorem Fils.give(h:Fils D8 G S N O kk F){n i:Nat}(h1:1<=n)(Bu:n<48)(hi:i<139)(h12:kk<=12){f:Nat}(hl:BJ (N.getD n []) (F n) i=(f:Int))(h0:f≠0)(q:Int × Int):
 Fils (fun a b=>a=n/\b=i) (putG G (f / 64) (Fa (O.set f q) (f / 64))) S N (O.set f q) kk F:=by
 have hv:=h.ow n i h1 Bu hi id (by rw[hl];omega);rw[hl] at hv;have hne:∀ {v:Int} {o:Int × Int},OwAt O kk v o->o≠((n:Int),IP i)->v.toNat≠f:=fun ho hq e=>by
  have:=ho.ne hv hq;have:=ho.1;omega
 have hk:f<64*kk:=by have:=hv.1;omega
 refine⟨h.fl,h.m0,fun m k1 k48 hm=>?_,fun m j k1 k48 hj hE Mu=>?_,fun t ht=>?_⟩
 . have ho:=h.map k1 k48 id hm
   have hx:=Ks (show f / 64<12 by omega);have e0:(((num (N.getD m []) 13).toNat:Nat):Int)=num (N.getD m []) 13:=(by have:=ho.1;omega);have a1:(num (N.getD m []) 13).toNat≠Ci (f / 64):=fun e=>by
    have:=ho.2.1;rw[<- e0,e,hx.1] at this;cases this
   have a2:(num (N.getD m []) 13).toNat≠Ci (f / 64)+1:=fun e=>by
    have:=ho.2.1;rw[<- e0,e,hx.2.1] at this;cases this
   unfold Go.Proofs.YtdefiimcmecnnaaGreat.putG;rw[BE _ _ _ a1,BE _ _ _ a2];exact h.m1 m k1 k48 hm
 . have ho:=h.ow m j k1 k48 hj id Mu
   refine ho.set q (hne ho fun e=>hE ?_);have e1:=(Dx e).1;have e2:=mj hj hi (Dx e).2;exact⟨by omega,e2⟩
 . rw[BE _ _ _ fun e=>?_]
   . exact h.tb t ht
   . have h3:=h.tb t ht
     have h4:=hv.2.2;rw[B5,<- e,h3] at h4;have:=(Dx h4).1;omega
end
theorem DataK.refl(O:List (Int × Int))(G:List (List Int)):DataK O O G G:=fun _ _ _ _ _=>rfl
theorem Less.trans{A B C:List (Int × Int)}(h:Less A B)(k:Less B C):Less A C:=fun v=>by
 rcases k v with e|e
 . rw[e];exact h v
 . exact Ba e
def Vq(M:Nat->Option (List Int))(n:Nat):Nat->Option (List Int):=fun i=>if n<=256*i then U else (M i).map fun l=>if n<256*i+256 then l.take (n-256*i) ++ AD (256-(n-256*i)) 0 else l
section
variable {M:Nat->Option (List Int)}
theorem OkB.rs(h:OkB M)(n:Nat):OkB (Vq M n):=by
 have key:∀ i l,Vq M n i=I l->∃ m,M i=I m/\l=(if n<256*i+256 then m.take (n-256*i) ++ AD (256-(n-256*i)) 0 else m)/\¬ n<=256*i:=fun i l e=>by
  unfold Vq at e;split at e
  . cases e
  . next hn=>
    obtain⟨m,e1,e2⟩:=Option.map_eq_some_iff.1 e;exact⟨m,e1,e2.symm,hn⟩
 constructor
 . intro i l e
   obtain⟨m,e1,rfl,hn⟩:=key i l e;have:=h.len i m e1;split
   . simp;omega
   . exact this
 . intro i l e
   obtain⟨m,e1,rfl,hn⟩:=key i l e;have:=h.byt i m e1;split
   . exact CS (Ez this _) (CW _)
   . exact this
theorem qn(h:OkB M)(n j:Nat):Vr (Vq M n) j=if j<n then Vr M j else 0:=by
 unfold Vr Ga Vq;by_cases c:n<=256*(j / 256)
 . rw[AC c,AE (by omega)]
   show z256.getD _ 0=0
   unfold z256;rw[An,BF];split <;> rfl
 . rw[AE c]
   cases e:M (j / 256)
   . show z256.getD _ 0=if j<n then z256.getD _ 0 else 0
     split
     . rfl
     . unfold z256
       rw[An,BF];split <;> rfl
   . next l=>
     have hl:=h.len _ _ e;show(if n<256*(j / 256)+256 then l.take (n-256*(j / 256)) ++ AD (256-(n-256*(j / 256))) 0 else l).getD (j%256) 0=if j<n then l.getD (j%256) 0 else 0
     by_cases c2:n<256*(j / 256)+256
     . rw[AC c2]
       by_cases c3:j<n
       . rw[AC c3,An,BT (by rw[AK];omega),AZ,AC (by omega),An]
       . rw[AE c3,An,BG (by rw[AK];omega),BF]
         split <;> rfl
     . rw[AE c2,AC (by omega)]
end
section
variable {w:Ah}{P:Nat->Prop}{d p:Aq}{X:XSt}{O D:List (Int × Int)}{k:Nat}
theorem Zd(h:SInv w P d p X)(hw:X.wi=AL)(hp0:X.put.length<=35)(hH:Has X.call O k)(hO:OOk O k){n:Nat}(hn:n<64*k)(hx:CJ (n:Int)=AI)(hf:CU O n=AI):
 AA Ae 188 #[p,J H n] w fun e w'=>e=Ag (J H 0)/\∃ P',SInv w' P' d p (IJ X (n / 64) (Fa (O.set n (0,0)) (n / 64)))/\Chg P P' w w':=by
 have h12:=hO.k12;have LH:X.cur=X.call:=by unfold XSt.cur;rw[AC hw]
 have hH':Has X.cur O k:=by rw[LH];exact hH
 have h2:(O.getD n (0,0)).1≠0:=BL hf;have KO:=vJ (TG (n:Int) (by omega) AL (by unfold Ph;rw[AF (by omega),hx];rfl));have KW:=vJ (Wb h hH' hO hn);obtain⟨x,Sl⟩:=nm ((O.getD n (0,0)).1);obtain⟨y,hyy⟩:=nm ((O.getD n (0,0)).2);rw[<- Sl,<- hyy] at KW;rw[<- Sl] at h2;have KF:=vJ (JB x y AI (by rw[Pw,show(x==0)=AI by simpa using h2];rfl));have KS:Hid (∀ W,At w.heap.size w W->AA Ae 204 #[p,J H n,BD #[J .u16 0,J .u16 0]] W fun e w'=>e=Ag (J H 0)/\∃ P',SInv w' P' d p (IJ X (n / 64) (Fa (O.set n (0,0)) (n / 64)))/\Chg P P' W w'):=vJ fun W hb=>SQ (h.low hb) hw hp0 hH hO hn hx (by decide) (by decide) (by decide) (by decide)
 clear h hw hp0 hH hO hn hx hf h12 LH hH' h2 Sl hyy;go_enter func188,ntmps188
 go_wp2_with (first
  |(go_at_call 201;refine(KO.out _).mono ?_;rintro e w' ⟨rfl,rfl⟩)
  |(go_at_call 202;refine KW.out.mono ?_;rintro e w1 ⟨rfl,hb1⟩;have hb2:=Ay w1 (Ar #[J .u16 x,J .u16 y] 165))
  |(go_at_call 203;refine(KF.out _).mono ?_;rintro e w3 ⟨rfl,hb3⟩;have hb03:=(hb1.trans (hb2.mono hb1.size)).trans (hb3.mono (AT hb1.size hb2.size)))
  |(go_at_call 204;refine(KS.out _ hb03).mono ?_;rintro e w4 ⟨rfl,P4,ai,hc4⟩))
 go_ret;exact⟨rfl,P4,ai,(Chg.of_below hb03).trans hc4⟩
end
section
variable {w:Ah}{P:Nat->Prop}{d p:Aq}{X:XSt}{S:List Int}{N:List (List Int)}{O:List (Int × Int)}{kk:Nat}{F:Nat->List Int}{bf:Nat}
theorem Sz(h:SInv w P d p X)(hf:FsAt w bf p)(hT:Tab X.cur S N)(hF:Fils D8 X.cur S N O kk F)(h12:kk<=12)(hl:X.cur.length=64*kk){n:Nat}(h1:1<=n)(Bu:n<48)(hk:Ca N n≠0){W:Ah}(hb:At w.heap.size w W):
 AA Ae 110 #[Am (I ⟨bf,0,U⟩),J H n] W (py W P bf n (N.getD n []) (F n) 10):=by
 have KO:=vJ (QL h hf hT h1 Bu hk hb);have KR:=vJ (fun(V:Ah) (bc:Nat) (fv:Aq) (hv:At w.heap.size w V) (hc:ChAt V bc bf n (N.getD n []) fv) (hbc:w.heap.size<=bc)=>Tt h hf hF h12 hl h1 Bu hv hc hbc);have HB:=vJ hb;clear h hf hT hF hk hb;go_enter func110,ntmps110
 go_wp2_with (first
  |(go_at_call 159;refine KO.out.mono ?_;rintro e w2 ⟨bc,rfl,hbc,hc,hb2⟩)
  |(go_at_call 160;refine(KR.out _ _ _ (HB.out.trans (hb2.mono HB.out.size)) hc (AT HB.out.size hbc)).mono ?_;rintro e w3 ⟨rfl,fv,bg,hc3,hg3,hk3⟩))
 go_ret2;exact⟨bc,fv,rfl,hbc,hc3,fun _=>⟨bg,hg3.1,AT hb2.size hg3.2.1,hg3.2.2⟩,hb2.trans (hk3.below hbc hb2.size)⟩
end
section
variable {G:List (List Int)}{S:List Int}{N:List (List Int)}{O:List (Int × Int)}{kk:Nat}{F:Nat->List Int}
def kW(G:List (List Int))(O:List (Int × Int))(f:Nat):List (List Int):=putG G (f / 64) (Fa (O.set f (0,0)) (f / 64))
theorem Pl.give(h:Pl D8 G S N O kk F){n i:Nat}(h1:1<=n)(Bu:n<48)(hi:i<139){f:Nat}(hl:BJ (N.getD n []) (F n) i=(f:Int))(h0:f≠0):
 Pl (fun a b=>a=n/\b=i) (kW G O f) S N (O.set f (0,0)) kk F/\CU O f=AI/\CJ (f:Int)=AI/\f<64*kk/\Dm O (64*kk)=Dm (O.set f (0,0)) (64*kk)+1/\DataK O (O.set f (0,0)) G (kW G O f)/\Less O (O.set f (0,0)):=by
 have ho:=h.fi.ow n i h1 Bu hi id (by rw[hl];omega);rw[hl] at ho;have hk:f<64*kk:=by have:=ho.1;omega
 have sU:f<O.length:=by rw[h.ok.len];exact hk
 have Qt:CU O f=AI:=MI (by omega) ho;have hO2:O=(O.set f (0,0)).set f ((n:Int),IP i):=by
  rw[List.set_set];apply Bi (by rw[AJ]);intro k h3 h4;rw[Cz];split
  . next e=>
    subst e;have:=ho.2.2;rw[B5,An,AS h3] at this;exact this
  . rfl
 have hc:Dm O (64*kk)=Dm (O.set f (0,0)) (64*kk)+1:=by
  have:=Kp (O:=O.set f (0,0)) (f:=f) (i:=(n:Int)) (j:=IP i) (by rw[AJ];exact sU) (by unfold CU;rw[getD_set _ _ _ _ _ sU,AC rfl];rfl) ho.2.1 (by omega) (64*kk) hk;rw[<- hO2] at this;exact this
 refine⟨⟨h.has.put hk _,h.ok.set hk ho.2.1 (by decide) (by decide) (by decide) (by decide),h.tab.putG (show f / 64<12 by have:=h.ok.k12;omega) _,h.fi.give h1 Bu hi h.ok.k12 hl h0 _⟩,Qt,ho.2.1,hk,hc,fun v a b c e=>?_,fun v=>?_⟩
 . exact aI _ (by have:=h.ok.k12;omega) _ (VT h.ok (v:=v) (by rw[e];exact a) (by rw[e];exact b))
 . rw[getD_set _ _ _ _ _ sU]
   split
   . exact Ba rfl
   . exact AN rfl
end
theorem YW(x:Int)(w:Ah):AA Ae 163 #[J H x] w fun e w'=>e=Ag (A1 (x != 0))/\w=w':=by
 go_enter func163,ntmps163;go_wp2;go_ret;exact⟨by simp,rfl⟩
def LC(F:List Int):Bool:=F.any fun x=>x != 0
theorem anyN_no{F:List Int}:LC F=AI ↔ ∀ j,j<F.length->F.getD j 0=0:=by
 unfold LC;rw[List.any_eq_false];constructor
 . intro h j hj
   have:=h _ (Bf hj)
   simpa [hj] using this
 . intro h x hx
   obtain⟨j,hj,rfl⟩:=BW hx;have:=h j hj
   simpa [hj] using this
theorem Xb{F:List Int}{j:Nat}(hj:j<F.length)(h:F.getD j 0≠0):LC F=AL:=by
 cases e:LC F
 . exact absurd (anyN_no.1 e j hj) h
 . rfl
theorem Za{w:Ah}{v:Aq}{l:List Int}(hs:ISl w v l)(hl:l.length<=1000000):AA Ae 189 #[v,.func (.func 163) #[] #[]] w fun e w'=>(∃ r:Int,e=Ag (J H r)/\decide (0<=r)=LC l)/\w=w':=by
 obtain⟨ao,cap,rfl,hc⟩:=hs.open';have EI:∀ k,k<l.length->l.getD k 0≠0->LC l=AL:=fun k hk h=>Xb hk h
 have C6:(∀ j,j<l.length->l.getD j 0=0)->LC l=AI:=anyN_no.2;obtain⟨R,hR⟩:=nm (LC l);rw[<- hR] at EI C6 |-
 obtain⟨N,hN⟩:=nm l.length;rw[<- hN] at hc C6 EI hl |-
 have HC:=vJ hc;have HNO:=vJ C6;have HYE:=vJ EI;have KN:=vJ YW;clear hc C6 EI hR hs hN;go_enter func189,ntmps189;go_wp2
 go_loop [8] (fun i=>∃ k:Nat,k<=N/\i=J H k/\Hid (∀ j,j<k->l.getD j 0=0)) (fun i=>N-(intOf i).toNat)
 case atStart=>exact⟨0,by omega,rfl,fun j hj=>absurd hj (A8 _)⟩
 case round=>
  obtain⟨k,hk,rfl,HK⟩:=hrel;by_cases hlt:k<N
  . obtain⟨b,off,rfl,_,hcc⟩:=HC.out (by omega)
    have hck:=hcc k hlt;have oJ:=HYE.out k hlt;obtain⟨x,hx⟩:=nm (l.getD k 0);rw[<- hx] at hck oJ;have HX:=vJ hx;have HY1:=vJ oJ;have ek:(k:Int)<(N:Int):=(by omega);clear hx hcc oJ;obtain⟨B,hB⟩:=nm ((x != 0));have KN1:=vJ (KN.out x w);rw[<- hB] at KN1;cases B
    . have HF:Hid (x=0):=vJ (by simpa using hB.symm)
      clear hB;go_wp2_with (go_at_call 163;refine KN1.out.mono ?_;rintro e w' ⟨rfl,rfl⟩)
      go_round
      case rel=>
       refine⟨k+1,by omega,by go_num,fun j hj=>?_⟩;by_cases e:j=k
       . rw[e,<- HX.out];exact HF.out
       . exact HK.out j (by omega)
      case measure=>simp[intOf];omega
    . have hne:x≠0:=by simpa using hB.symm
      have hR:=HY1.out hne;subst hR;clear hB hne;go_wp2_with (go_at_call 163;refine KN1.out.mono ?_;rintro e w' ⟨rfl,rfl⟩)
      go_ret;exact⟨⟨_,rfl,by simp⟩,rfl⟩
  . have hR:=HNO.out fun j hj=>HK.out j (by omega)
    subst hR;obtain rfl:k=N:=by omega
    go_wp2;go_ret;exact⟨⟨_,rfl,by decide⟩,rfl⟩
theorem QX{w:Ah}{v:Aq}{l:List Int}(hs:ISl w v l)(hl:l.length<=1000000){R:Bool}(hR:LC l=R):AA Ae 162 #[v,.func (.func 163) #[] #[]] w fun e w'=>e=Ag (A1 R)/\w=w':=by
 have K:=vJ (Za hs hl);rw[hR] at K;clear hs hR;go_enter func162,ntmps162;go_wp2_with (go_at_call 189;refine K.out.mono ?_;rintro e w' ⟨⟨r,rfl,hr⟩,rfl⟩)
 go_ret;exact⟨by first|(simp ;done)|(simp;done)|simpa using hr,rfl⟩
section
variable {w:Ah}{P:Nat->Prop}{d p:Aq}{X:XSt}{S:List Int}{N:List (List Int)}{O:List (Int × Int)}{kk:Nat}{bf:Nat}
theorem Zz(h:SInv w P d p X)(hw:X.wi=AL)(hp:X.put.length<=35)(hH:Has X.call O kk)(hO:OOk O kk)(hf:FsAt w bf p){m:Nat}(hm:m<64*kk)(hx:CJ (m:Int)=AI)(Qt:CU O m=AI):
 AA Ae 161 #[Am (I ⟨bf,0,U⟩),J H m] w fun e w'=>e=Ag (J H 0)/\∃ P',SInv w' P' d p (IJ X (m / 64) (Fa (O.set m (0,0)) (m / 64)))/\Chg P P' w w':=
 (Ys (R:=fun E w'=>E=0/\∃ P',SInv w' P' d p (IJ X (m / 64) (Fa (O.set m (0,0)) (m / 64)))/\Chg P P' w w') hf ((Zd h hw hp hH hO hm hx Qt).mono fun e w' ⟨he,hr⟩=>⟨0,he,rfl,hr⟩)).mono fun e w' ⟨E,he,hE,hr⟩=>by rw[hE] at he;exact⟨he,hr⟩
theorem Vz{W:Ah}{bc n B:Nat}{x F:List Int}{fv:Aq}(hc:ChAt W bc bf n x fv){i:Nat}(hF:10<=i->∃ bg,FarA W B bc P fv F bg)(hi:i<138)(h0:BJ x F i=0):
 AA Ae 111 #[Am (I ⟨bc,0,U⟩),J H i] W fun e w'=>e=Ag (J H 0)/\W=w':=by
 have K:=vJ (Nw hc hF hi);rw[h0] at K;clear hc hF h0;go_enter func111,ntmps111;go_wp2_with (go_at_call 133;refine K.out.mono ?_;rintro e w' ⟨rfl,rfl⟩)
 go_ret;exact⟨rfl,rfl⟩
theorem QV{W:Ah}{bc n B:Nat}{x F:List Int}{fv:Aq}(hc:ChAt W bc bf n x fv){i:Nat}(hF:10<=i->∃ bg,FarA W B bc P fv F bg)(hi:i<138){m:Nat}(hm:BJ x F i=(m:Int))(FH:m≠0){R1 R:Ah->Prop}
 (hG:AA Ae 161 #[Am (I ⟨bf,0,U⟩),J H m] W fun e w'=>e=Ag (J H 0)/\R1 w')
 (hS:∀ V,R1 V->AA Ae 137 #[Am (I ⟨bc,0,U⟩),J H i,J H 0] V fun e w'=>e=Ag (J H 0)/\R w'):
 AA Ae 111 #[Am (I ⟨bc,0,U⟩),J H i] W fun e w'=>e=Ag (J H 0)/\R w':=by
 have K:=vJ (Nw hc hF hi);rw[hm] at K;have KG:=vJ hG;have KS:=vJ hS;have c0:=hc.c0;have hz:((m:Int)==0)=AI:=by simp;omega
 clear hc hF hm FH hG hS;go_enter func111,ntmps111
 go_wp2_with (first
  |(go_at_call 133;refine K.out.mono ?_;rintro e w' ⟨rfl,rfl⟩)
  |(go_at_call 161;refine KG.out.mono ?_;rintro e w2 ⟨rfl,hr1⟩)
  |(go_at_call 137;refine(KS.out _ hr1).mono ?_;rintro e w3 ⟨rfl,hr3⟩))
 go_ret;exact⟨rfl,hr3⟩
theorem Rd{W:Ah}{bc n:Nat}{x:List Int}{fv:Aq}(hc:ChAt W bc bf n x fv)(h0:num x 13=0):
 AA Ae 112 #[Am (I ⟨bc,0,U⟩)] W fun e w'=>e=Ag (J H 0)/\W=w':=by
 have cm:=hc.cm;rw[h0] at cm;clear hc h0;go_enter func112,ntmps112;go_wp2;go_ret;exact⟨rfl,rfl⟩
theorem QH{W:Ah}{bc n B bg:Nat}{x F:List Int}{fv:Aq}(hc:ChAt W bc bf n x fv)(h0:num x 13≠0)(hF:FarA W B bc P fv F bg)(hn:LC F=AL):
 AA Ae 112 #[Am (I ⟨bc,0,U⟩)] W fun e w'=>e=Ag (J H 0)/\W=w':=by
 have cm:=hc.cm;have cf:=hc.cf;have K:=vJ (QX hF.isl (by rw[hF.1];decide) hn);obtain⟨m,hm⟩:=nm (num x 13);rw[<- hm] at cm h0;have hz:(m==0)=AI:=by simpa using h0
 clear hc h0 hF hn hm;go_enter func112,ntmps112;go_wp2_with (go_at_call 162;refine K.out.mono ?_;rintro e w' ⟨rfl,rfl⟩)
 go_ret;exact⟨rfl,rfl⟩
theorem Sv{bc n B bg:Nat}{x F:List Int}{fv:Aq}{m:Nat}(hF:FarA w B bc P fv F bg)(hn:LC F=AI)(hm:num x 13=(m:Int))(FH:m≠0)
 (hK:AA Ae 161 #[Am (I ⟨bf,0,U⟩),J H m] w.drew fun e w'=>e=Ag (J H 0)/\∃ P',SInv w' P' d p X/\Chg P P' w w')
 (hw:X.wi=AL) (hp:X.put.length<37) (hf:FsAt w bf p) (pZ:¬ P bf) (hT:Tab X.call S N) (h1:1<=n) (Bu:n<48) (hc:ChAt w bc bf n x fv) (IH:¬ P bc) (IF:El (x.set 13 0)=AL):
 AA Ae 112 #[Am (I ⟨bc,0,U⟩)] w fun e w'=>e=Ag (J H 0)/\∃ P',SInv w' P' d p (putI X S N n (x.set 13 0))/\Chg (PM P (·=bc)) (PM P' (·=bc)) w w'/\¬ P' bc:=by
 have K:=vJ hK;have KN:=vJ (QX hF.isl (by rw[hF.1];decide) hn);have HX:Hid ((x.set 13 (0:Int)).length=14):=vJ (by rw[AJ];exact hc.1);have u1:=underlying80;obtain⟨y,hy⟩:=nm (x.set 13 (0:Int));rw[<- hy] at IF HX |-
 have c0:=hc.c0;have cm:=hc.cm;have cf:=hc.cf;rw[hm] at cm;have hz:((m:Int)==0)=AI:=by simp;omega
 have HC:Hid (∀ V P',Chg P P' w V->V.cell? ⟨bc,15,U⟩=I (J H (m:Nat))/\V.frozen? ⟨bc,15,U⟩=AI):=vJ fun V P' hv=>⟨by rw[(hc.chg hv IH).1.cm,hm],(hc.chg hv IH).1.free 15⟩
 have HD:Hid (∀ V P',Chg P P' w V->SInv V P' d p X->ChAt (V.setCell ⟨bc,15,U⟩ (J H 0)).drew bc bf n y fv/\Chg (PM P (·=bc)) (PM P' (·=bc)) w (V.setCell ⟨bc,15,U⟩ (J H 0)).drew/\
  AA Ae 42 #[Am (I ⟨bf,0,U⟩),J H n,BD (iC y).toArray] (V.setCell ⟨bc,15,U⟩ (J H 0)).drew fun e w'=>e=Ag (J H 0)/\∃ P'',SInv w' P'' d p (putI X S N n y)/\ChAt w' bc bf n y fv/\Chg P' P'' (V.setCell ⟨bc,15,U⟩ (J H 0)).drew w'/\¬ P'' bc):=vJ fun V P' hv hi=>by
  obtain⟨hc2,Oh⟩:=hc.chg hv IH;obtain⟨hf2,hnf2⟩:=hf.chg hv pZ;have hw3:=Wrote.setCell V bc 15 (J H (0:Int));have hc3:=hc2.setN (k:=13) (by decide) (0:Int);rw[show 2+13=15 by rfl,<- hy] at hc3;have hd:=(AM (V.setCell ⟨bc,15,U⟩ (J H (0:Int))).heap.size (V.setCell ⟨bc,15,U⟩ (J H (0:Int)))).drew;have hf3:FsAt (V.setCell ⟨bc,15,U⟩ (J H (0:Int))) bf p:=(hw3.2.2.2.2 bf (hf2.ne_ch hc2)).trans hf2;exact⟨hc3.low hd,(hv.pm _).trans ((Chg.one (P:=P') hw3).trans (Chg.of_below hd)),iI ((hi.wrote hw3 Oh).low hd) hw hp (hf3.low hd) hT h1 Bu (hc3.low hd) Oh IF⟩
 clear hK hw hp hf pZ hT h1 Bu hc IH IF hy hF hn hm FH;go_enter func112,ntmps112;go_upto_region 3 with(go_at_call 162;refine KN.out.mono ?_;rintro e w' ⟨rfl,rfl⟩)
 go_still_tail 9,(by kernel_rfl)
 go_upto_region 7 with(go_at_call 161;refine K.out.mono ?_;rintro e w2 ⟨rfl,P2,Hc,hg2⟩;obtain⟨c15,f15⟩:=HC.out _ _ hg2)
 obtain⟨hS,hg3,hk3⟩:=HD.out _ _ hg2 Hc;have HG:=vJ hg3;have KP:=vJ hk3;clear hg2 Hc c15 f15 hg3 hk3;refine wp_region_held_drew (S:=fun W=>ChAt W bc bf n y fv) (by kernel_rfl) hS (fun hHeld=>?_);clear hHeld;refine tk 0 (Am (I ⟨bc,0,U⟩)) rfl (by kernel_rfl) (fun _ _ _ h=>h) (AN ⟨by rfl,?_⟩) (by assumption) ?_
 . intro W hM;go_simp
 try simp only[AR,q1,q2,q3,q4,q5]
 refine tk 1 (Am (I ⟨bc,0,U⟩)) rfl (by kernel_rfl) (fun _ _ _ h=>h) (AN ⟨by rfl,?_⟩) (by assumption) ?_
 . intro W hM;go_simp
 try simp only[AR,q1,q2,q3,q4,q5,q6]
 refine tk 2 (Am (I ⟨bc,0,U⟩)) rfl (by kernel_rfl) (fun _ _ _ h=>h) (AN ⟨by rfl,?_⟩) (by assumption) ?_
 . intro W hM;go_simp
 try simp only[AR,q1,q2,q3,q4,q5,q6]
 refine tk 3 (Am (I ⟨bf,0,U⟩)) rfl (by kernel_rfl) (fun _ _ _ h=>h) (AN ⟨by rfl,?_⟩) (by assumption) ?_
 . intro W hM;have f0:=hM.c0;go_simp
 try simp only[AR,q1,q2,q3,q4,q5,q6]
 refine tk 4 (Am (I ⟨bc,0,U⟩)) rfl (by kernel_rfl) (fun _ _ _ h=>h) (AN ⟨by rfl,?_⟩) (by assumption) ?_
 . intro W hM;go_simp
 try simp only[AR,q1,q2,q3,q4,q5,q6]
 refine tk 5 (Am (I ⟨bc,0,U⟩)) rfl (by kernel_rfl) (fun _ _ _ h=>h) (AN ⟨by rfl,?_⟩) (by assumption) ?_
 . intro W hM;go_simp
 try simp only[AR,q1,q2,q3,q4,q5,q6]
 refine tk 6 (Am (I ⟨bc,1,U⟩)) rfl (by kernel_rfl) (fun _ _ _ h=>h) (AN ⟨by rfl,?_⟩) (by assumption) ?_
 . intro W hM;go_simp
 try simp only[AR,q1,q2,q3,q4,q5,q6]
 refine tk 7 (J H n) rfl (by kernel_rfl) (fun _ _ _ h=>h) (AN ⟨by rfl,?_⟩) (by assumption) ?_
 . intro W hM;have f1:=hM.c1;go_simp
 try simp only[AR,q1,q2,q3,q4,q5,q6]
 refine tk 8 (Am (I ⟨bc,0,U⟩)) rfl (by kernel_rfl) (fun _ _ _ h=>h) (AN ⟨by rfl,?_⟩) (by assumption) ?_
 . intro W hM;go_simp
 try simp only[AR,q1,q2,q3,q4,q5,q6]
 refine tk 9 (Am (I ⟨bc,0,U⟩)) rfl (by kernel_rfl) (fun _ _ _ h=>h) (AN ⟨by rfl,?_⟩) (by assumption) ?_
 . intro W hM;go_simp
 try simp only[AR,q1,q2,q3,q4,q5,q6]
 refine tk 10 (Am (I ⟨bc,2,U⟩)) rfl (by kernel_rfl) (fun _ _ _ h=>h) (AN ⟨by rfl,?_⟩) (by assumption) ?_
 . intro W hM;go_simp
 try simp only[AR,q1,q2,q3,q4,q5,q6]
 refine tk 11 (BD (iC y).toArray) rfl (by kernel_rfl) (fun _ _ _ h=>h) (yieldsIf_load_mid rfl 80 (.tmp 44) rfl bc 2 rfl (iC y) _ (fun W hW=>hW.rng) u1 rfl (by rw[Hf,Cx,HX.out])) (by assumption) ?_
 try simp only[AR,q1,q2,q3,q4,q5,q6]
 refine wpAnyH_ready (rs:=[12]) (by kernel_rfl) (by simp) (EL rfl (fun K hK=>?_) AllReadyH.nil)
 go_simp
 go_at_call 42
 refine KP.out.mono ?_;rintro e w4 ⟨rfl,P4,ai,hc4,hg4⟩;refine hK.out _ _ hc4 (fun hHeld=>?_);clear hK K hHeld
 try simp only[AR,q1,q2,q3,q4,q5,q6]
 refine tk 13 (J H 0) rfl (by kernel_rfl) (fun _ _ _ h=>h) (AN ⟨by rfl,?_⟩) (by assumption) ?_
 . intro W hM;go_simp
 try simp only[AR,q1,q2,q3,q4,q5,q6]
 refine wpAnyH_done (by kernel_rfl) ?_ _;go_wp2;go_ret;exact⟨rfl,P4,ai,HG.out.trans (hg4.1.pm _),hg4.2⟩
end
structure Cst (S:List Int) (kk:Nat) (G N:List (List Int)) (O:List (Int × Int)) (F:Nat->List Int) (n:Nat) (G' N':List (List Int)) (O':List (Int × Int)) (F':Nat->List Int):Prop where
 pl:Pl D8 G' S N' O' kk F'
 hd:∀ j,j<3->num (N'.getD n []) j=num (N.getD n []) j
 oth:∀ m,m≠n->N'.getD m []=N.getD m []/\F' m=F m
 cnt:Dm O' (64*kk)+IZ (N.getD n []) (F n)=Dm O (64*kk)+IZ (N'.getD n []) (F' n)
 dat:DataK O O' G G'
 les:Less O O'
section
variable {G:List (List Int)}{S:List Int}{N:List (List Int)}{O:List (Int × Int)}{kk:Nat}{F:Nat->List Int}
theorem Cst.refl(h:Pl D8 G S N O kk F)(n:Nat):Cst S kk G N O F n G N O F:=⟨h,fun _ _=>rfl,fun _ _=>⟨rfl,rfl⟩,rfl,DataK.refl _ _,Less.refl _⟩
theorem Cst.trans{n:Nat}{G1 N1 G2 N2:List (List Int)}{O1 O2:List (Int × Int)}{F1 F2:Nat->List Int}(h:Cst S kk G N O F n G1 N1 O1 F1)(k:Cst S kk G1 N1 O1 F1 n G2 N2 O2 F2):Cst S kk G N O F n G2 N2 O2 F2:=
 ⟨k.pl,fun j hj=>(k.hd j hj).trans (h.hd j hj),fun m hm=>⟨(k.oth m hm).1.trans (h.oth m hm).1,(k.oth m hm).2.trans (h.oth m hm).2⟩,by have:=h.cnt;have:=k.cnt;omega,h.dat.less k.dat k.les,h.les.trans k.les⟩
theorem MS{x y F F':List Int}{i:Nat}(hi:i<139)(h0:BJ x F i≠0)(h:∀ b,b<139->BJ y F' b=if b=i then 0 else BJ x F b):IZ x F=IZ y F'+1:=
 LM (by rw[h i hi,AC rfl]) h0 139 hi fun j hj hne=>by rw[h j hj,AE hne]
theorem Pl.dropNear(h:Pl D8 G S N O kk F){n i f:Nat}(h1:1<=n)(Bu:n<48)(hk:Ca N n≠0)(hi:i<10)(hl:BJ (N.getD n []) (F n) i=(f:Int))(h0:f≠0):
 Cst S kk G N O F n (PQ (kW G O f) S N n ((N.getD n []).set (3+i) 0)) (N.set n ((N.getD n []).set (3+i) 0)) (O.set f (0,0)) F/\El ((N.getD n []).set (3+i) 0)=AL:=by
 have hx:=h.tab.n.get Bu;have IF:=h.tab.n.frm n Bu;obtain⟨t1,t2,t3,t4,t5,t6,t7⟩:=h.give h1 Bu (i:=i) (by omega) hl h0;have X0:=M7 hx IF hk (a:=3+i) (by omega) (by omega) (v:=(0:Int)) (by omega);have JI:=fun b=>L0 (F:=F n) hx hi (0:Int) b
 have hm:num ((N.getD n []).set (3+i) (0:Int)) 13=num (N.getD n []) 13:=by rw[CA (by omega),AE (by omega)]
 obtain⟨s1,s2⟩:=t1.node h1 Bu (y:=(N.getD n []).set (3+i) (0:Int)) (by rw[AJ];exact hx) X0 (fun a b e=>e.1)
  (by rw[hm];exact h.fi.m0 n h1 Bu) (by rw[hm];exact t1.fi.m1 n h1 Bu) (fun b hb hz=>by
    rw[JI] at hz |-
    split
    . next e=>rw[AC e] at hz;exact absurd rfl hz
    . next e=>rw[AE e] at hz;exact t1.fi.ow n b h1 Bu hb (fun h=>e h.2) hz)
 have hn:n<N.length:=by rw[h.tab.n.len];exact Bu
 refine⟨⟨s1,fun j hj=>?_,fun m hm=>⟨BE _ _ _ hm,rfl⟩,?_,t6.less s2 (Less.refl _),t7⟩,X0⟩
 . rw[D5 hn,AC rfl,CA (by omega),AE (by omega)]
 . rw[D5 hn,AC rfl,t5,MS (i:=i) (by omega) (by rw[hl];omega) fun b _=>JI b];omega
theorem Pl.dropFar(h:Pl D8 G S N O kk F){n i f m:Nat}(h1:1<=n)(Bu:n<48)(Gm:10<=i)(hi:i<138)(hl:BJ (N.getD n []) (F n) i=(f:Int))(h0:f≠0)(hm:num (N.getD n []) 13=(m:Int))(FH:m≠0):
 Cst S kk G N O F n ((kW G O f).set m (FO ((F n).set (i-10) 0))) N (O.set f (0,0)) (setF F n ((F n).set (i-10) 0))/\FP ((F n).set (i-10) 0)=AL:=by
 obtain⟨t1,t2,t3,t4,t5,t6,t7⟩:=h.give h1 Bu (i:=i) (by omega) hl h0;have hF:=h.fi.fl n;have JI:=fun b=>Lr (x:=N.getD n []) hF.1 Gm hi (0:Int) b
 have hL:=Wg hF.2 (i-10) (v:=(0:Int)) (by omega);obtain⟨s1,s2⟩:=t1.far h1 Bu hm FH (fun e=>by have:=e.2;omega) (L:=(F n).set (i-10) (0:Int)) (by rw[AJ];exact hF.1) hL (fun a b e=>e.1) (fun b hb10 hb hz=>by
  have e:num ((F n).set (i-10) (0:Int)) (b-10)=BJ (N.getD n []) ((F n).set (i-10) (0:Int)) b:=by unfold BJ;rw[AE (by omega),AE (by omega)]
  rw[e,JI] at hz |-
  split
  . next e=>rw[AC e] at hz;exact absurd rfl hz
  . next e=>rw[AE e] at hz;exact t1.fi.ow n b h1 Bu (by omega) (fun h=>e h.2) hz) (fun b hb e=>by have:=e.2;omega)
 refine⟨⟨s1,fun j hj=>rfl,fun a ha=>⟨rfl,bz F ha _⟩,?_,t6.less s2 (Less.refl _),t7⟩,hL⟩;rw[JX,t5,MS (i:=i) (by omega) (by rw[hl];omega) fun b _=>JI b];omega
theorem gn{F:List Int}(hF:F.length=128)(h:LC F=AI):F=AD 128 0:=by
 apply Bi (by rw[hF,A4]);intro i h1 h2;have:=anyN_no.1 h i h1;rw[List.getElem_replicate]
 simpa [h1] using this
theorem Pl.dropMap(h:Pl D8 G S N O kk F){n f:Nat}(h1:1<=n)(Bu:n<48)(hk:Ca N n≠0)(hl:num (N.getD n []) 13=(f:Int))(h0:f≠0)(hz:LC (F n)=AI):
 Cst S kk G N O F n (PQ (kW G O f) S N n ((N.getD n []).set 13 0)) (N.set n ((N.getD n []).set 13 0)) (O.set f (0,0)) F/\El ((N.getD n []).set 13 0)=AL:=by
 have hx:=h.tab.n.get Bu;have IF:=h.tab.n.frm n Bu;obtain⟨t1,t2,t3,t4,t5,t6,t7⟩:=h.give h1 Bu (i:=138) (by omega) (f:=f) hl h0;have X0:=M7 hx IF hk (a:=13) (by omega) (by omega) (v:=(0:Int)) (by omega);have JI:=fun b=>L6 (F:=F n) hx (0:Int) b
 have hm:num ((N.getD n []).set 13 (0:Int)) 13=0:=by rw[CA (by omega),AC rfl]
 obtain⟨s1,s2⟩:=t1.node h1 Bu (y:=(N.getD n []).set 13 (0:Int)) (by rw[AJ];exact hx) X0 (fun a b e=>e.1)
  (fun _=>gn (h.fi.fl n).1 hz) (by rw[hm];exact fun h=>absurd rfl h) (fun b hb hz=>by
    rw[JI] at hz |-
    split
    . next e=>rw[AC e] at hz;exact absurd rfl hz
    . next e=>rw[AE e] at hz;exact t1.fi.ow n b h1 Bu hb (fun h=>e h.2) hz)
 have hn:n<N.length:=by rw[h.tab.n.len];exact Bu
 refine⟨⟨s1,fun j hj=>?_,fun m hm=>⟨BE _ _ _ hm,rfl⟩,?_,t6.less s2 (Less.refl _),t7⟩,X0⟩
 . rw[D5 hn,AC rfl,CA (by omega),AE (by omega)]
 . rw[D5 hn,AC rfl,t5,MS (i:=138) (by omega) (by show num (N.getD n []) 13≠0;rw[hl];omega) fun b _=>JI b];omega
end
def jf(w0:Ah)(P0:Nat->Prop)(d p:Aq)(X:XSt)(S:List Int)(N:List (List Int))(O:List (Int × Int))(kk:Nat)(F:Nat->List Int)(bf n bc:Nat)(fv:Aq)(Q:List Int)(R:List Int->List Int->Prop)(w':Ah):Prop:=
 ∃ P' X' N' O' F',Chs w0 P0 w' P' d p X' S N' O' kk F' bf n 10 bc fv/\Cst S kk X.call N O F n X'.call N' O' F'/\Onw X X'/\PutS X' Q/\R (N'.getD n []) (F' n)
section
variable {w0 w:Ah}{P0 P:Nat->Prop}{d p:Aq}{X:XSt}{S:List Int}{N:List (List Int)}{O:List (Int × Int)}{kk:Nat}{F:Nat->List Int}{bf n i bc:Nat}{fv:Aq}{Q:List Int}
theorem Chs.give(h:Chs w0 P0 w P d p X S N O kk F bf n 10 bc fv)(h1:1<=n)(Bu:n<48)(hi:i<139){m:Nat}(hm:BJ (N.getD n []) (F n) i=(m:Int))(FH:m≠0)(hq:PutS X Q)(hQ:Q.length<=35)(hB:∀ g,g<kk->(Ci g:Int)∈Q/\(Ci g:Int)+1∈Q){V:Ah}(hV:At w.heap.size w V):
 AA Ae 161 #[Am (I ⟨bf,0,U⟩),J H m] V fun e w'=>e=Ag (J H 0)/\∃ P',SInv w' P' d p (IJ X (m / 64) (Fa (O.set m (0,0)) (m / 64)))/\Chg P P' V w':=by
 obtain⟨t1,t2,t3,t4,_⟩:=h.md.pl.give h1 Bu hi hm FH;exact Zz (h.md.inv.low hV) h.md.wi (by have:=hq.le;omega) h.md.pl.has h.md.pl.ok (h.md.fs.low hV) t4 t3 t2
theorem Chs.drop(h:Chs w0 P0 w P d p X S N O kk F bf n 10 bc fv)(h1:1<=n)(Bu:n<48)(hk:Ca N n≠0)(hi:i<138)(hq:PutS X Q)(hQ:Q.length<=35)(hB:Base Q S kk n (num (N.getD n []) 13)):
 AA Ae 111 #[Am (I ⟨bc,0,U⟩),J H i] w fun e w'=>e=Ag (J H 0)/\
  jf w0 P0 d p X S N O kk F bf n bc fv Q (fun y F'=>(∀ b,b<138->BJ y F' b=if b=i then 0 else BJ (N.getD n []) (F n) b)/\num y 13=num (N.getD n []) 13) w':=by
 obtain⟨bg,hbg⟩:=h.far (AB _);have aD:10<=i->∃ bg,FarA w w0.heap.size bc P fv (F n) bg:=fun _=>⟨bg,hbg⟩
 by_cases h0:BJ (N.getD n []) (F n) i=0
 . refine(Vz h.ch aD hi h0).mono ?_
   rintro e w' ⟨he,rfl⟩;refine⟨he,P,X,N,O,F,h,Cst.refl h.md.pl n,Onw.refl X,hq,fun b _=>?_,rfl⟩;split
   . next e=>rw[e];exact h0
   . rfl
 . have hbd:=Nu (h.md.pl.tab.n.frm n Bu) (h.md.pl.fi.fl n) (i:=i) (by omega)
   obtain⟨m,hm⟩:∃ m:Nat,BJ (N.getD n []) (F n) i=(m:Int):=⟨(BJ (N.getD n []) (F n) i).toNat,by omega⟩;have FH:m≠0:=(by omega);have hx:=h.md.pl.tab.n.get Bu;have hn:n<N.length:=(by rw[h.md.pl.tab.n.len];exact Bu);obtain⟨t1,t2,t3,t4,_⟩:=h.md.pl.give h1 Bu (i:=i) (by omega) hm FH;have p1:PutS (IJ X (m / 64) (Fa (O.set m (0,0)) (m / 64))) Q:=hq.adds (hB.g (m / 64) (by omega)).2 (hB.g (m / 64) (by omega)).1 rfl;have p1l:=p1.le;have hG:=h.give h1 Bu (i:=i) (by omega) hm FH hq hQ hB.g (AM _ w);by_cases Gm:i<10
   . obtain⟨hst,IF⟩:=h.md.pl.dropNear h1 Bu hk Gm hm FH
     refine(QV (R1:=fun V=>∃ P',SInv V P' d p (IJ X (m / 64) (Fa (O.set m (0,0)) (m / 64)))/\Chg P P' w V) (R:=jf w0 P0 d p X S N O kk F bf n bc fv Q (fun y F'=>(∀ b,b<138->BJ y F' b=if b=i then 0 else BJ (N.getD n []) (F n) b)/\num y 13=num (N.getD n []) 13)) h.ch aD hi hm FH hG ?_);rintro V ⟨P1,hi1,hg1⟩;obtain⟨hfs1,sk⟩:=h.md.fs.chg hg1 h.md.nb;obtain⟨o7,XL⟩:=h.ch.chg hg1 h.nc;refine(R8 hi1 h.md.wi (by omega) hfs1 t1.tab h1 Bu o7 XL Gm IF).mono ?_;rintro e w' ⟨he,P',Hc,Sm,hg,Hn⟩;obtain⟨hfs,IH⟩:=hfs1.chg hg (fun hx=>hx.elim sk fun e=>hfs1.ne_ch o7 e);have hy:(N.set n ((N.getD n []).set (3+i) 0)).getD n []=(N.getD n []).set (3+i) 0:=by rw[D5 hn,AC rfl]
     refine⟨he,P',_,_,_,_,⟨⟨Hc,h.md.wi,hst.pl,h.md.st,hfs,fun e=>IH (AN e)⟩,by rw[hy];exact Sm,Hn,h.bb,fun _=>?_,Chg.inner2 (h.cg.trans hg1) hg fun k hk=>by rw[hk];exact h.bb⟩,hst,⟨rfl,rfl⟩,p1.add hB.t rfl,?_,?_⟩
     . obtain⟨f1,f2,f3,f4,f5,f6⟩:=hbg.chg hg1
       have:=hg.keep bg (Al.1 f6).1 fun hx=>hx.elim f4 f3
       exact⟨bg,f1,f2,f3,fun e=>this.2 (AN e),f5,this.1.trans f6⟩
     . intro b _;rw[hy,L0 hx Gm]
     . rw[hy,CA (by omega),AE (by omega)]
   . have cT:num (N.getD n []) 13≠0:=fun e=>by
      have:=h.md.pl.fi.m0 n h1 Bu e;have e2:BJ (N.getD n []) (F n) i=num (F n) (i-10):=(by unfold BJ;rw[AE Gm,AE (by omega)]);rw[e2,this] at h0;apply h0;unfold num;rw[An,BF];split <;> rfl
     have ho:=h.md.pl.fi.map h1 Bu id cT;obtain⟨k,oF⟩:∃ k:Nat,num (N.getD n []) 13=(k:Int):=⟨(num (N.getD n []) 13).toNat,by have:=ho.1;omega⟩;rw[oF] at ho;have hko:=ho.1;have h12:=h.md.pl.ok.k12;have cN:=ho.outJ h12;rw[B5] at cN;have hkQ:=hB.m cT;rw[oF] at hkQ;obtain⟨hst,hL⟩:=h.md.pl.dropFar h1 Bu (by omega) hi hm FH oF (by omega);refine(QV (R1:=fun V=>∃ P',SInv V P' d p (IJ X (m / 64) (Fa (O.set m (0,0)) (m / 64)))/\Chg P P' w V) (R:=jf w0 P0 d p X S N O kk F bf n bc fv Q (fun y F'=>(∀ b,b<138->BJ y F' b=if b=i then 0 else BJ (N.getD n []) (F n) b)/\num y 13=num (N.getD n []) 13)) h.ch aD hi hm FH hG ?_);rintro V ⟨P1,hi1,hg1⟩;obtain⟨hfs1,sk⟩:=h.md.fs.chg hg1 h.md.nb;obtain⟨o7,XL⟩:=h.ch.chg hg1 h.nc;have hbg1:=hbg.chg hg1;obtain⟨f1,f2,f3,f4,f5,f6⟩:=hbg1;refine(Tu hi1 h.md.wi (by omega) hfs1 o7 XL ⟨f1,f2,f3,f4,f5,f6⟩ (by omega) hi hL oF (by show k<X.is.length;rw[h.md.isl];omega) (by omega) cN).mono ?_;rintro e w' ⟨he,P',Hc,Sm,mc,hg,Hn⟩;obtain⟨hfs,IH⟩:=hfs1.chg hg (fun hx=>hx.elim sk fun e=>hfs1.ne_io f6 f1 e);refine⟨he,P',_,_,_,_,⟨⟨Hc,h.md.wi,hst.pl,h.md.st,hfs,fun e=>IH (AN e)⟩,Sm,Hn,h.bb,fun _=>⟨bg,by rw[JX];exact mc⟩,Chg.inner2 (h.cg.trans hg1) hg fun k hk=>by rw[hk];exact f2⟩,hst,⟨rfl,rfl⟩,p1.add hkQ rfl,?_,rfl⟩;intro b _;rw[JX,Lr (h.md.pl.fi.fl n).1 (by omega) hi]
theorem Chs.dropMap(h:Chs w0 P0 w P d p X S N O kk F bf n 10 bc fv)(h1:1<=n)(Bu:n<48)(hk:Ca N n≠0)(hq:PutS X Q)(hQ:Q.length<=35)(hB:Base Q S kk n (num (N.getD n []) 13)):
 AA Ae 112 #[Am (I ⟨bc,0,U⟩)] w fun e w'=>e=Ag (J H 0)/\∃ P' X' N' O' F',Fmd w' P' d p X' S N' O' kk F' bf/\Cst S kk X.call N O F n X'.call N' O' F'/\Onw X X'/\PutS X' Q/\Chg P0 P' w0 w'/\
  (∀ b,b<138->BJ (N'.getD n []) (F' n) b=BJ (N.getD n []) (F n) b)/\(num (N'.getD n []) 13≠0 ↔ num (N.getD n []) 13≠0/\LC (F n)=AL)/\(num (N'.getD n []) 13≠0->num (N'.getD n []) 13=num (N.getD n []) 13):=by
 obtain⟨bg,hbg⟩:=h.far (AB _);by_cases h0:num (N.getD n []) 13=0
 . refine(Rd h.ch h0).mono ?_
   rintro e w' ⟨he,rfl⟩;exact⟨he,P,X,N,O,F,h.md,Cst.refl h.md.pl n,Onw.refl X,hq,h.cg,fun b _=>rfl,⟨fun e=>absurd h0 e,fun e=>e.1⟩,fun _=>rfl⟩
 . cases hz:LC (F n)
   . have ho:=h.md.pl.fi.map h1 Bu id h0
     obtain⟨m,hm⟩:∃ m:Nat,num (N.getD n []) 13=(m:Int):=⟨(num (N.getD n []) 13).toNat,by have:=ho.1;omega⟩;have FH:m≠0:=(by omega);have hx:=h.md.pl.tab.n.get Bu;have hn:n<N.length:=(by rw[h.md.pl.tab.n.len];exact Bu);obtain⟨t1,t2,t3,t4,_⟩:=h.md.pl.give h1 Bu (i:=138) (by omega) (f:=m) hm FH;obtain⟨hst,IF⟩:=h.md.pl.dropMap h1 Bu hk hm FH hz;have p1:PutS (IJ X (m / 64) (Fa (O.set m (0,0)) (m / 64))) Q:=hq.adds (hB.g (m / 64) (by omega)).2 (hB.g (m / 64) (by omega)).1 rfl;have p1l:=p1.le;have hd:At w.heap.size w w.drew:=(AM _ _).drew;have hG:=h.give h1 Bu (i:=138) (by omega) (m:=m) hm FH hq hQ hB.g hd;refine(Sv (X:=IJ X (m / 64) (Fa (O.set m (0,0)) (m / 64))) hbg hz hm FH (hG.mono fun e w' ⟨he,P',hi,hg⟩=>⟨he,P',hi,(Chg.of_below hd).trans hg⟩) h.md.wi (by omega) h.md.fs h.md.nb t1.tab h1 Bu h.ch h.nc IF).mono ?_;rintro e w' ⟨he,P',hi,hg,Hn⟩;obtain⟨hfs,IH⟩:=h.md.fs.chg hg (fun hx=>hx.elim h.md.nb fun e=>h.md.fs.ne_ch h.ch e);have hy:(N.set n ((N.getD n []).set 13 0)).getD n []=(N.getD n []).set 13 0:=(by rw[D5 hn,AC rfl]);refine⟨he,P',_,_,_,_,⟨hi,h.md.wi,hst.pl,h.md.st,hfs,fun e=>IH (AN e)⟩,hst,⟨rfl,rfl⟩,p1.add hB.t rfl,Chg.inner2 h.cg hg fun k hk=>by rw[hk];exact h.bb,fun b hb=>?_,?_,fun e=>absurd ?_ e⟩
     . rw[hy,L6 hx,AE (by omega)]
     . rw[hy,CA (by omega),AC rfl]
       exact⟨fun e=>absurd rfl e,fun e=>by cases e.2⟩
     . rw[hy,CA (by omega),AC rfl]
   . refine(QH h.ch h0 hbg hz).mono ?_
     rintro e w' ⟨he,rfl⟩;exact⟨he,P,X,N,O,F,h.md,Cst.refl h.md.pl n,Onw.refl X,hq,h.cg,fun b _=>rfl,⟨fun e=>⟨e,rfl⟩,fun e=>e.1⟩,fun _=>rfl⟩
end
structure CutR (X:XSt) (S:List Int) (N:List (List Int)) (O:List (Int × Int)) (kk:Nat) (F:Nat->List Int) (n a:Nat) (Q:List Int) (X':XSt) (N':List (List Int)) (O':List (Int × Int)) (F':Nat->List Int):Prop where
 st:Cst S kk X.call N O F n X'.call N' O' F'
 loc:∀ b,b<138->BJ (N'.getD n []) (F' n) b=if a<=b then 0 else BJ (N.getD n []) (F n) b
 mp:num (N'.getD n []) 13≠0 ↔ (num (N.getD n []) 13≠0/\∃ b,10<=b/\b<138/\BJ (N'.getD n []) (F' n) b≠0)
 on:Onw X X'
 pt:PutS X' Q
 mq:num (N'.getD n []) 13≠0->num (N'.getD n []) 13=num (N.getD n []) 13
def CutK(w:Ah)(P:Nat->Prop)(d p:Aq)(X:XSt)(S:List Int)(N:List (List Int))(O:List (Int × Int))(kk:Nat)(F:Nat->List Int)(bf n a k bc:Nat)(fv:Aq)(Q:List Int)(wr:Ah):Prop:=
 ∃ P1 X1 N1 O1 F1,Chs w P wr P1 d p X1 S N1 O1 kk F1 bf n 10 bc fv/\Cst S kk X.call N O F n X1.call N1 O1 F1/\Onw X X1/\PutS X1 Q/\(∀ b,b<138->BJ (N1.getD n []) (F1 n) b=if a<=b/\b<k then 0 else BJ (N.getD n []) (F n) b)/\num (N1.getD n []) 13=num (N.getD n []) 13
section
variable {w:Ah}{P:Nat->Prop}{d p:Aq}{X:XSt}{S:List Int}{N:List (List Int)}{O:List (Int × Int)}{kk:Nat}{F:Nat->List Int}{bf n:Nat}{Q:List Int}
theorem Chs.openAll(h:Fmd w P d p X S N O kk F bf)(h1:1<=n)(Bu:n<48)(hk:Ca N n≠0):
 AA Ae 110 #[Am (I ⟨bf,0,U⟩),J H n] w fun e w'=>∃ bc,e=Ag (AO #[Am (I ⟨bc,0,U⟩),J H 0])/\∃ fv,Chs w P w' P d p X S N O kk F bf n 10 bc fv:=by
 have hc:=h.cur;refine(Sz (F:=F) h.inv h.fs (by rw[hc];exact h.pl.tab) (by rw[hc];exact h.pl.fi) h.pl.ok.k12 (by rw[hc];exact h.pl.has.len) h1 Bu hk (AM _ _)).mono ?_;rintro e w' ⟨bc,fv,he,hbc,Sm,mc,hb⟩;exact⟨bc,he,fv,h.low hb,Sm,fun hp=>by have:=h.inv.lt _ hp;omega,hbc,mc,Chg.of_below hb⟩
theorem CutK.step{a k bc:Nat}{fv:Aq}{wr:Ah}(h:CutK w P d p X S N O kk F bf n a k bc fv Q wr)(h1:1<=n)(Bu:n<48)(hk:Ca N n≠0)(XU:a<=k)(hi:k<138)(hQ:Q.length<=35)(hB:Base Q S kk n (num (N.getD n []) 13)):
 AA Ae 111 #[Am (I ⟨bc,0,U⟩),J H k] wr fun e w'=>e=Ag (J H 0)/\CutK w P d p X S N O kk F bf n a (k+1) bc fv Q w':=by
 obtain⟨P1,X1,N1,O1,F1,hc,hs,ho,hq,hl,hm⟩:=h;refine(hc.drop h1 Bu (by rw[Da,hs.hd 0 (by decide),<- Da];exact hk) hi hq hQ (by rw[hm];exact hB)).mono ?_;rintro e w' ⟨he,P2,X2,N2,O2,F2,hc2,hs2,ho2,TW,Mu,hm2⟩;refine⟨he,P2,X2,N2,O2,F2,hc2,hs.trans hs2,ho.trans ho2,TW,fun b hb=>?_,hm2.trans hm⟩;rw[Mu b hb,hl b hb];by_cases e:b=k
 . rw[AC e,AC (by omega)]
 . rw[AE e]
   by_cases c:a<=b/\b<k
   . rw[AC c,AC (by omega)]
   . rw[AE c,AE (by omega)]
theorem kD{x F:List Int}(hF:F.length=128):LC F=AL ↔ ∃ b,10<=b/\b<138/\BJ x F b≠0:=by
 have e:∀ b,10<=b->b<138->BJ x F b=F.getD (b-10) 0:=fun b h1 h2=>by unfold BJ num;rw[AE (by omega),AE (by omega)]
 constructor
 . intro h
   apply Vh;intro hn;have:LC F=AI:=anyN_no.2 fun j hj=>by
    apply Vh;intro h2;exact hn ⟨j+10,by omega,by omega,by rw[e _ (by omega) (by omega),show j+10-10=j by omega];exact h2⟩
   rw[h] at this;cases this
 . rintro⟨b,h1,h2,h3⟩
   rw[e b h1 h2] at h3;exact Xb (by omega) h3
theorem CutK.last{a k bc:Nat}{fv:Aq}{wr:Ah}(h:CutK w P d p X S N O kk F bf n a k bc fv Q wr)(h1:1<=n)(Bu:n<48)(hk:Ca N n≠0)(hi:138<=k)(hQ:Q.length<=35)(hB:Base Q S kk n (num (N.getD n []) 13)):
 AA Ae 112 #[Am (I ⟨bc,0,U⟩)] wr fun e w'=>e=Ag (J H 0)/\∃ P' X' N' O' F',Fmd w' P' d p X' S N' O' kk F' bf/\CutR X S N O kk F n a Q X' N' O' F'/\Chg P P' w w':=by
 obtain⟨P1,X1,N1,O1,F1,hc,hs,ho,hq,hl,hm⟩:=h;refine(hc.dropMap h1 Bu (by rw[Da,hs.hd 0 (by decide),<- Da];exact hk) hq hQ (by rw[hm];exact hB)).mono ?_;rintro e w' ⟨he,P2,X2,N2,O2,F2,hc2,hs2,ho2,TW,hg,Mu,hm2,sE⟩;have rl:=(hc.md.pl.fi.fl n).1;refine⟨he,P2,X2,N2,O2,F2,hc2,⟨hs.trans hs2,fun b hb=>?_,?_,ho.trans ho2,TW,fun e=>(sE e).trans hm⟩,hg⟩
 . rw[Mu b hb,hl b hb]
   by_cases c:a<=b
   . rw[AC ⟨c,by omega⟩,AC c]
   . rw[AE (fun e=>c e.1),AE c]
 . rw[hm2,hm,kD (x:=N1.getD n []) rl]
   constructor
   . rintro⟨a1,b,b1,b2,b3⟩;exact⟨a1,b,b1,b2,by rw[Mu b b2];exact b3⟩
   . rintro⟨a1,b,b1,b2,b3⟩;exact⟨a1,b,b1,b2,by rw[Mu b b2] at b3;exact b3⟩
theorem lk(h:Fmd w P d p X S N O kk F bf)(h1:1<=n)(Bu:n<48)(hk:Ca N n≠0){a:Nat}(ha:(a:Int)<=9223372036854775807)(hq:PutS X Q)(hQ:Q.length<=35)(hB:Base Q S kk n (num (N.getD n []) 13)):
 AA Ae 72 #[Am (I ⟨bf,0,U⟩),J H n,J H a] w fun e w'=>e=Ag (J H 0)/\∃ P' X' N' O' F',Fmd w' P' d p X' S N' O' kk F' bf/\CutR X S N O kk F n a Q X' N' O' F'/\Chg P P' w w':=by
 have K:=vJ (Chs.openAll h h1 Bu hk);have HPL:=vJ h.pl;have KS:=vJ (fun(k bc:Nat) (fv:Aq) (wr:Ah) (h:CutK w P d p X S N O kk F bf n a k bc fv Q wr) (XU:a<=k) (hi:k<138)=>h.step h1 Bu hk XU hi hQ hB);have KL:=vJ (fun(k bc:Nat) (fv:Aq) (wr:Ah) (h:CutK w P d p X S N O kk F bf n a k bc fv Q wr) (hi:138<=k)=>h.last h1 Bu hk hi hQ hB);have HQ:=vJ hq;clear h hk hq hQ hB;have ha0:¬ (a:Int)<0:=by omega
 go_enter func72,ntmps72;go_wp2_with (go_at_call 110;refine K.out.mono ?_;rintro e w2 ⟨bc,rfl,fv,h2⟩)
 have HC0:Hid (CutK w P d p X S N O kk F bf n a a bc fv Q w2):=vJ ⟨P,X,N,O,F,h2,Cst.refl HPL.out n,Onw.refl X,HQ.out,fun b _=>by rw[AE (by omega)],rfl⟩;clear h2;go_loopw [9] (fun i wr=>∃ k:Nat,(a<=k/\(k:Int)<=9223372036854775807)/\i=J H k/\Hid (CutK w P d p X S N O kk F bf n a k bc fv Q wr)) (fun i _=>138-(intOf i).toNat)
 case atStart=>exact⟨a,⟨AB _,ha⟩,rfl,HC0⟩
 case round=>
  obtain⟨k,⟨XU,hk⟩,rfl,HC⟩:=hrel;clear HC0;by_cases hlt:k<138
  . have KS1:=vJ (KS.out k bc fv wr HC.out XU hlt)
    have ek:(k:Int)<138:=(by omega);go_wp2_with (go_at_call 111;refine KS1.out.mono ?_;rintro e w3 ⟨rfl,h3⟩)
    go_roundw
    case rel=>exact⟨k+1,⟨by omega,by omega⟩,by go_num,vJ h3⟩
    case measure=>simp[intOf];omega
  . have KL1:=vJ (KL.out k bc fv wr HC.out (by omega))
    have ek:¬ (k:Int)<138:=(by omega);go_wp2_with (go_at_call 112;refine KL1.out.mono ?_;rintro e w3 ⟨rfl,h3⟩)
    go_ret;exact⟨rfl,h3⟩
end
section
variable {w0 w:Ah}{P:Nat->Prop}{d p:Aq}{X:XSt}{S:List Int}{N:List (List Int)}{O:List (Int × Int)}{kk:Nat}{F:Nat->List Int}{bf:Nat}
theorem Fsd.low(h:Fsd w0 w P d p X S N O kk F bf){w':Ah}(hb:At w.heap.size w w'):Fsd w0 w' P d p X S N O kk F bf:=
 { h with inv:=h.inv.low hb,fs:=h.fs.low hb,be:=h.be.trans (hb.mono h.be.size) }
theorem Fsd.far(h:Fsd w0 w P d p X S N O kk F bf){M M':Nat->Prop}{w':Ah}(hc:Chg M M' w w')(hM:∀ x,M x->w0.heap.size<=x)(hP:∀ x,P x->¬ M x)(hf:¬ M bf):Fsd w0 w' P d p X S N O kk F bf:=
 { h with inv:=h.inv.keep hc.size fun x hx=>(hc.keep x (h.inv.lt x hx) (hP x hx)).1,fs:=((hc.keep bf (Al.1 h.fs).1 hf).1).trans h.fs,
          be:=h.be.trans (hc.below fun x hx=>⟨AH hx h.be.size,fun hm=>by have:=hM x hm;omega⟩) }
theorem Fsm.far(h:Fsm w0 w P d p X S N O kk F bf){M M':Nat->Prop}{w':Ah}(hc:Chg M M' w w')(hM:∀ x,M x->w0.heap.size<=x)(hP:∀ x,P x->¬ M x)(hf:¬ M bf):Fsm w0 w' P d p X S N O kk F bf:=
 { h with inv:=h.inv.keep hc.size fun x hx=>(hc.keep x (h.inv.lt x hx) (hP x hx)).1,fs:=((hc.keep bf (Al.1 h.fs).1 hf).1).trans h.fs,sz:=AT h.sz hc.size,
          be:=h.be.trans (hc.below fun x hx=>⟨AH hx h.sz,fun hm=>by have:=hM x hm;omega⟩) }
theorem Fmd.farM(h:Fmd w P d p X S N O kk F bf){M M':Nat->Prop}{w':Ah}(hc:Chg M M' w w')(hP:∀ x,P x->¬ M x)(hf:¬ M bf):Fmd w' P d p X S N O kk F bf:=
 { h with inv:=h.inv.keep hc.size fun x hx=>(hc.keep x (h.inv.lt x hx) (hP x hx)).1,fs:=((hc.keep bf (Al.1 h.fs).1 hf).1).trans h.fs }
theorem Fsm.keep(h:Fsm w0 w P d p X S N O kk F bf){N2:List (List Int)}{O2:List (Int × Int)}{F2:Nat->List Int}(hm:Fmd w P d p X S N2 O2 kk F2 bf):
 AA Ae 18 #[p,A1 AL] w fun e w'=>e=Ag (J H 0)/\∃ P' X',Fsd w0 w' P' d p X' S N2 O2 kk F2 bf/\X'.is=X.call/\Chg P P' w w':=by
 refine(landed.endKeep h.inv h.wi).mono fun e w' he=>?_
 rcases he with⟨B,dt,ds',_,Mc,he,P',hi,hc⟩| ⟨hf,_⟩
 . obtain⟨hf,hn⟩:=h.fs.chg hc h.nb
   obtain⟨hb,hp⟩:=Jv h.be h.pN hc;exact⟨he,P',_,⟨hi,rfl,by show ds'.fu=AI;rw[Mc];exact h.fu,hm.pl,h.st,hf,hn,h.bN,hp,hb⟩,rfl,hc⟩
 . rw[h.fu] at hf;cases hf
theorem Fsm.undo(h:Fsm w0 w P d p X S N O kk F bf):AA Ae 18 #[p,A1 AI] w fun e w'=>e=Ag (J H 0)/\∃ P' X',Fsd w0 w' P' d p X' S N O kk F bf/\X'.is=X.is/\Chg P P' w w':=by
 refine(landed.endUndo h.inv h.wi).mono fun e w' ⟨he,P',hi,hc⟩=>?_
 obtain⟨hf,hn⟩:=h.fs.chg hc h.nb;obtain⟨hb,hp⟩:=Jv h.be h.pN hc;exact⟨he,P',_,⟨hi,rfl,h.fu,h.pl,h.st,hf,hn,h.bN,hp,hb⟩,rfl,hc⟩
theorem Fsd.rd(h:Fsd w0 w P d p X S N O kk F bf):Frd w P d p X S N O kk F bf:=by
 have hc:X.cur=X.is:=by unfold XSt.cur;rw[h.wi];rfl
 exact⟨h.inv,h.fs,by rw[hc];exact h.pl.tab,by rw[hc];exact h.pl.fi,h.pl.ok.k12,by rw[hc];exact h.pl.has.len⟩
end
section
variable {G G':List (List Int)}{S:List Int}{N N':List (List Int)}{O O':List (Int × Int)}{kk:Nat}{F F':Nat->List Int}{n sz:Nat}{M:Nat->Option (List Int)}{X X':XSt}{Q:List Int}
theorem Cst.fst(h:Cst S kk X.call N O F n X'.call N' O' F')(hp:Pl D8 X.call S N O kk F)(ho:Onw X X'):Fst S kk X N O F n X' N' O' F':=
 ⟨fun m sz M a b c d=>d.other hp h.pl h.dat b c (h.oth m a).1 (h.oth m a).2,ho,h.cnt,by rw[Da,h.hd 0 (by decide),<- Da],fun m hm=>(h.oth m hm).1⟩
theorem Fat.cut{a:Nat}(h:Fat X.call N F n sz M)(hp:Pl D8 X.call S N O kk F)(hr:CutR X S N O kk F n a Q X' N' O' F')(h1:1<=n)(Bu:n<48):Fat X'.call N' F' n sz (fun i=>if a<=i then .none else M i):=by
 refine⟨by rw[Da,hr.st.hd 0 (by decide),<- Da];exact h.kd,by rw[hr.st.hd 2 (by decide)];exact h.zs,h.sb,fun b hb=>?_,fun b hb=>?_,?_,⟨fun i l e=>?_,fun i l e=>?_⟩⟩
 . rw[hr.loc b hb]
   show(if a<=b then .none else M b)=_
   by_cases e:a<=b
   . rw[AC e,AC e,AC rfl]
   . rw[AE e,AE e]
     by_cases h0:BJ (N.getD n []) (F n) b=0
     . rw[AC h0];exact h.none hb h0
     . rw[AE h0,L9 hp hr.st.pl hr.st.dat h1 Bu hb (by rw[hr.loc b hb,AE e]) h0];exact h.some hb h0
 . show(if a<=b then .none else M b)=_
   rw[h.hi b hb];split <;> rfl
 . rw[hr.mp]
   constructor
   . exact fun e=>e.2
   . rintro⟨b,a1,a2,a3⟩
     refine⟨h.mp.2 ⟨b,a1,a2,?_⟩,b,a1,a2,a3⟩;rw[hr.loc b a2] at a3;split at a3
     . exact absurd rfl a3
     . exact a3
 . have e:(if a<=i then .none else M i)=Option.some l:=e
   split at e
   . cases e
   . exact h.ok.len i l e
 . have e:(if a<=i then .none else M i)=Option.some l:=e
   split at e
   . cases e
   . exact h.ok.byt i l e
end
def Vd(l:List Int):Nat->Int
 |0=>0
 |1=>l.getD 0 0
 |k+2=>max (Vd l (k+1)) (l.getD (k+1) 0)
theorem Ya{l:List Int}(h:FJ l):∀ k,0<=Vd l k/\Vd l k<=255
 |0=>by unfold Vd;omega
 |1=>by have:=h 0;unfold Vd;omega
 |k+2=>by have:=h (k+1);have:=Ya h (k+1);unfold Vd;omega
theorem VB{l:List Int}(h:FJ l):∀ k,Vd l k=0 ↔ ∀ j,j<k->l.getD j 0=0
 |0=>⟨fun _ j hj=>absurd hj (A8 _),fun _=>rfl⟩
 |1=>⟨fun e j hj=>(by have h0:j=0:=(by omega);subst h0;exact e),fun e=>e 0 Nat.zero_lt_one⟩
 |k+2=>by
  have ih:=VB h (k+1);have h1:=Ya h (k+1);have h2:=h (k+1);unfold Vd;constructor
  . intro e j hj
    by_cases c:j=k+1
    . subst c;omega
    . exact(ih.1 (by omega)) j (by omega)
  . intro e
    have a:=ih.2 fun j hj=>e j (by omega)
    have b:=e (k+1) (by omega);omega
theorem jN{w:Ah}{g off cap:Nat}{l:List Int}(hs:BSl w (Ak (I ⟨g,off,U⟩) l.length cap) l)(h0:0<l.length)(hM:l.length<=1000):
 AA Ae 113 #[Ak (I ⟨g,off,U⟩) l.length cap] w fun e w'=>e=Ag (J .u8 (Vd l l.length))/\w=w':=by
 obtain⟨m,hm⟩:=nm l.length;have HC:Hid (∀ j,j<m->w.cell? ⟨g,off+j,U⟩=I (J .u8 (l.getD j 0))):=vJ fun j hj=>by
  rcases hs.2 with⟨e,_⟩| ⟨a,c,e,_,hc⟩
  . cases e
  . obtain rfl:=Bz (A0 e).1
    exact(hc j (by omega)).2.2
 have HB:=vJ (Ya hs.1);have HBY:=vJ hs.1;rw[<- hm] at h0 hM |-
 obtain⟨R,hR⟩:=nm (Vd l m);rw[<- hR];have HR:=vJ hR;have c0:=HC.out 0 h0;rw[Nat.add_zero] at c0;have e0:(0:Int)<(m:Int):=by omega
 have H1:Hid (l.getD 0 0=Vd l 1):=vJ rfl;clear hs hm hR;go_enter func113,ntmps113;go_wp2;go_loopw [3,4] (fun a i wr=>w=wr/\∃ k:Nat,1<=k/\k<=m/\i=J H k/\a=J .u8 (Vd l k)) (fun _ i _=>m-(intOf i).toNat)
 case atStart=>exact⟨rfl,1,AB _,h0,rfl,by rw[<- H1.out,An]⟩
 case round=>
  obtain⟨rfl,k,hk1,hk,rfl,rfl⟩:=hrel;clear c0;by_cases hlt:k<m
  . have ck:=HC.out k hlt
    have hb1:=HB.out k;have hb2:=HBY.out k;have HN:Hid (Vd l (k+1)=max (Vd l k) (l.getD k 0)):=vJ (by
     obtain⟨j,rfl⟩:∃ j,k=j+1:=⟨k-1,by omega⟩;rfl)
    obtain⟨x,hx⟩:=nm (Vd l k);obtain⟨y,hy⟩:=nm (l.getD k 0);rw[<- hx,<- hy] at HN;rw[<- hx] at hb1 |-
    rw[<- hy] at hb2 ck;have ek:(k:Int)<(m:Int):=(by omega);clear hx hy;go_wp2;go_roundw
    case rel=>exact⟨by trivial,k+1,by omega,by omega,by go_num,by rw[HN.out]⟩
    case measure=>simp[intOf];omega
  . obtain rfl:k=m:=by omega
    rw[<- HR.out];go_wp2;go_ret;exact⟨rfl,rfl⟩
section
variable {w:Ah}{P:Nat->Prop}{d p:Aq}{X:XSt}{S:List Int}{N:List (List Int)}{O:List (Int × Int)}{kk:Nat}{F:Nat->List Int}{bf n sz:Nat}{M:Nat->Option (List Int)}{Q:List Int}
def Xh(M:Nat->Option (List Int))(i o:Nat):Nat->Option (List Int):=fun j=>if j=i then (M i).map fun l=>l.take o ++ AD (256-o) 0 else M j
theorem Wz{l:List Int}(hl:l.length=256){o:Nat}(ho:o<=256):splice l o (AD (256-o) 0)=l.take o ++ AD (256-o) 0:=by
 unfold splice;rw[BZ (by rw[A4];omega),BB]
theorem c8{o i:Nat}(hk:OkB M)(h:∀ j,j<256-o->(Ga M i).getD (o+j) 0=0):Xh M i o=M:=by
 funext j;unfold Xh;by_cases e:j=i
 . subst e
   rw[AC rfl];cases hm:M j
   . rfl
   . next l=>
     have hl:=hk.len j l hm;have hb:Ga M j=l:=(by unfold Ga;rw[hm];rfl);rw[hb] at h;show I _=I _
     congr 1;apply Bi
     . rw[Ax,AK,A4];by_cases c:o<=256
       . omega
       . rw[hl] at *;omega
     . intro k h1 h2
       by_cases c:k<o
       . rw[List.getElem_append_left (by rw[AK];omega),C7]
       . rw[List.getElem_append_right (by rw[AK];omega),List.getElem_replicate]
         have:=h (k-o) (by omega);rw[show o+(k-o)=k by omega,An,AS h2] at this;exact this.symm
 . rw[AE e]
theorem jy{o i:Nat}(hk:OkB M)(ho:o<=256)(hs:(M i).isSome=AL):E7 M i (splice (Ga M i) o (AD (256-o) 0))=Xh M i o:=by
 funext j;unfold Xh;by_cases e:j=i
 . subst e
   rw[Hs,AC rfl];cases hm:M j
   . rw[hm] at hs;cases hs
   . next l=>
     have hb:Ga M j=l:=(by unfold Ga;rw[hm];rfl);rw[hb,Wz (hk.len j l hm) ho];rfl
 . rw[FW _ e,AE e]
theorem fJ(h:Flt w P d p X S N O kk F bf n sz M Q)(h1:1<=n)(Bu:n<48)(hQ:Q.length<=35){i o:Nat}(hi:i<138)(ho:o<256):
 AA Ae 73 #[Am (I ⟨bf,0,U⟩),J H n,J H i,J H o] w fun e w'=>e=Ag (J H 0)/\FlO w P d p X S N O kk F bf n Q sz (Xh M i o) 1 R5 w':=by
 have KR:=KV h.md.rd (M:=M) (sz:=sz) (by rw[h.md.cur];exact h.ft) h1 Bu hi;have hok:=h.ft.ok;have hbl:=hok.blk i;obtain⟨D,hD⟩:=nm (((Ga M i).drop o).take (256-o));have hDl:D.length=256-o:=by rw[hD,AK,AU,hbl.1];omega
 have hDg:∀ j,j<256-o->D.getD j 0=(Ga M i).getD (o+j) 0:=fun j hj=>by
  rw[hD,An,AZ,AC hj,Bp,An]
 have hDb:FJ D:=by rw[hD];exact Ez (NE hbl.2 o) _
 have hmx:=VB hDb (256-o);have KX:Hid (∀ (V:Ah) (g cap:Nat) T rest B,Rw V B (Ak (I ⟨g,0,U⟩) 256 cap) (Ga M i) g cap T rest->AA Ae 113 #[Ak (I ⟨g,o,U⟩) (256-o) (cap-o)] V fun e w'=>e=Ag (J .u8 (Vd D (256-o)))/\V=w'):=vJ fun V g cap T rest B hr=>by
  have hb:=hr.bsl;rw[show(256:Nat)=(Ga M i).length from hr.len.symm] at hb;have hm:=hb.mid o (256-o) (by rw[hr.len];omega);rw[<- hD] at hm;rw[Bm] at hm;have:=jN (w:=V) (g:=g) (off:=o) (cap:=cap-o) (l:=D) (by rw[hDl];exact hm) (by omega) (by omega);rw[hDl] at this;exact this
 have eo:(o:Int)<=256:=by omega
 have ho2:o<=256:=by omega
 by_cases hz:Vd D (256-o)=0
 . have qb:Xh M i o=M:=c8 hok fun j hj=>by rw[<- hDg j hj];exact hmx.1 hz j hj
   rw[qb];have HL:=vJ (fun V (hV:At w.heap.size w V)=>(h.low hV).here (R:=R5) trivial);have KR:=vJ KR;rw[hz] at KX;clear h hok hbl hD hDl hDg hDb hmx hz qb;go_enter func73,ntmps73
   go_wp2_with (first
    |(go_at_call 78;refine KR.out.mono ?_;rintro e w2 ⟨g,cap,T,rest,rfl,hr2,hb2⟩;have rZ:=hr2.cap;have KX2:=vJ (KX.out _ _ _ _ _ _ hr2);have HB2:=vJ hb2;clear hr2 hb2)
    |(with_reducible refine Iq rfl (.tmp 23) (.tmp 24) rfl g 0 256 cap rfl (o:Int) rfl o rfl ho2 rZ (by omega) ?_)
    |(go_at_call 113;(with_reducible refine KX2.out.mono ?_);rintro e w' ⟨rfl,rfl⟩))
   go_ret;obtain⟨P',X',N',O',F',Q',a,b,c,e,f,g⟩:=HL.out _ HB2.out;exact⟨rfl,P',X',N',O',F',Q',a,b,c,Nat.le_succ_of_le e,(Chg.of_below HB2.out).trans f,g⟩
 . have hs:(M i).isSome=AL:=by
    cases hm:M i
    . exfalso
      apply hz;apply hmx.2;intro j hj;rw[hDg j hj];unfold Ga;rw[hm];show z256.getD (o+j) 0=0
      unfold z256;rw[An,BF];split <;> rfl
    . rfl
   have ve:=jy hok ho2 hs;rw[<- ve];have h0:=(h.ft.iff hi).1 hs;have hbd:=Nu (h.md.pl.tab.n.frm n Bu) (h.md.pl.fi.fl n) (i:=i) (by omega);obtain⟨v,hv⟩:∃ v:Nat,BJ (N.getD n []) (F n) i=(v:Int):=⟨(BJ (N.getD n []) (F n) i).toNat,by omega⟩;unfold vj at KR;rw[hv] at KR;have KR:=vJ KR;have h2:Flt w P d p X S N O kk F bf n sz M (Q ++ [(v:Int)]):={ h with q:=h.q.wide fun a ha=>Br _ ha,bs:=⟨fun g hg=>⟨Br _ (h.bs.g g hg).1,Br _ (h.bs.g g hg).2⟩,Br _ h.bs.t,fun e=>Br _ (h.bs.m e)⟩ };have KP:Hid (∀ V (u:Aq) l,At w.heap.size w V->BSl V u l->l.length=256->AA Ae 85 #[p,J H v,u] V fun e w'=>e=Ag (J H 0)/\FlO w P d p X S N O kk F bf n Q sz (E7 M i l) 1 R5 w'):=vJ fun V u l hV hu hl=>
    ((h2.low hV).put h1 Bu (by rw[Ax,List.length_singleton];omega) hi hv (by omega) (Ep _ (Et.2 rfl)) hl hu).mono fun e w' ⟨he,P',X',N',O',F',Q',a,b,c,e2,f,g⟩=>
      ⟨he,P',X',N',O',F',Q',a,b,fun x hx=>c x (Br _ hx),by rw[Ax,List.length_singleton] at e2;omega,(Chg.of_below hV).trans f,g⟩
   have HC:Hid (∀ (V:Ah) (g cap:Nat) T rest,Rw V w.heap.size (Ak (I ⟨g,0,U⟩) 256 cap) (Ga M i) g cap T rest->At w.heap.size w V->∃ w',(∀ ty,(Builtin.clear_ #[49] ty #[Ak (I ⟨g,o,U⟩) (256-o) (cap-o)]).run Ae V=.ok (AO #[]) w')/\At w.heap.size w w'/\FsAt w' bf p/\Hid (BSl w' (Ak (I ⟨g,0,U⟩) 256 cap) (splice (Ga M i) o (AD (256-o) 0))/\(splice (Ga M i) o (AD (256-o) 0)).length=256)):=vJ fun V g cap T rest hr hV=>by
    obtain⟨w',DY,hw,hr'⟩:=hr.clear (o:=o) (n:=256-o) (c:=cap-o) (by omega) (by omega);have hb':=hV.trans (hw.below hr.ge);exact⟨w',DY,hb',h.md.fs.low hb',vJ ⟨hr'.bsl,hr'.len⟩⟩
   have rf:(Vd D (256-o)==0)=AI:=by simpa using hz
   obtain⟨Y,hY⟩:=nm (Vd D (256-o));rw[<- hY] at KX rf;clear h h2 hok hbl hD hDl hDg hDb hmx hz hs ve h0 hbd hv hY;go_enter func73,ntmps73
   go_wp2_with (first
    |(go_at_call 78;refine KR.out.mono ?_;rintro e w2 ⟨g,cap,T,rest,rfl,hr2,hb2⟩;have rZ:=hr2.cap;have KX2:=vJ (KX.out _ _ _ _ _ _ hr2);obtain⟨w4,hcl,hb4,hf4,HU4⟩:=HC.out _ _ _ _ _ hr2 hb2;have KP4:=vJ (KP.out w4 _ _ hb4 HU4.out.1 HU4.out.2);have cf4:=hf4.cell;clear hr2 hb2 hb4 hf4)
    |(with_reducible refine Iq rfl (.tmp 23) (.tmp 24) rfl g 0 256 cap rfl (o:Int) rfl o rfl ho2 rZ (by omega) ?_)
    |(with_reducible refine Iq rfl (.tmp 30) (.tmp 31) rfl g 0 256 cap rfl (o:Int) rfl o rfl ho2 rZ (by omega) ?_)
    |(go_at_call 113;(with_reducible refine KX2.out.mono ?_);rintro e w' ⟨rfl,rfl⟩)
    |(go_at_call 85;refine KP4.out.mono ?_;rintro e w5 ⟨rfl,hO5⟩))
   go_ret;exact⟨rfl,hO5⟩
end
section
variable {w:Ah}{P:Nat->Prop}{d p:Aq}{X:XSt}{S:List Int}{N:List (List Int)}{O:List (Int × Int)}{kk:Nat}{F:Nat->List Int}{bf n sz:Nat}{M:Nat->Option (List Int)}{Q:List Int}
theorem Flt.cut(h:Flt w P d p X S N O kk F bf n sz M Q)(h1:1<=n)(Bu:n<48)(hQ:Q.length<=35){a:Nat}(ha:a<=1000):
 AA Ae 72 #[Am (I ⟨bf,0,U⟩),J H n,J H a] w fun e w'=>e=Ag (J H 0)/\FlO w P d p X S N O kk F bf n Q sz (fun i=>if a<=i then U else M i) 0 R5 w':=by
 refine(lk h.md h1 Bu h.ft.k0 (a:=a) (by omega) h.q hQ h.bs).mono ?_;rintro e w' ⟨he,P',X',N',O',F',hm,hr,hg⟩;have Qv:=h.ft.cut h.md.pl hr h1 Bu;have hfs:=hr.st.fst h.md.pl hr.on;have hc:=h.cnt Qv hfs;have Mi:DL (fun i=>if a<=i then U else M i)<=DL M:=J3 fun i _ e=>by
  have e:(if a<=i then U else M i).isSome=AL:=e;split at e
  . cases e
  . exact e
 have hrm:=h.rm;refine⟨he,P',X',N',O',F',Q,⟨hm,Qv,hr.pt,⟨h.bs.g,h.bs.t,fun e=>?_⟩,by omega⟩,hfs,fun _ h=>h,AB _,hg,trivial⟩;obtain⟨e1,b,b1,b2,b3⟩:=hr.mp.1 e;have:=hr.mq e;rw[this];exact h.bs.m e1
theorem kU{M:Nat->Option (List Int)}{v:Nat}(h:v%256=0):(fun i=>if (v+255) / 256<=i then U else M i)=Vq M v:=by
 funext i;unfold Vq;by_cases c:v<=256*i
 . rw[AC c,AC (by omega)]
 . rw[AE c,AE (by omega)]
   cases hm:M i
   . rfl
   . next l=>
     show I l=I (if v<256*i+256 then _ else l)
     rw[AE (by omega)]
theorem lr{M:Nat->Option (List Int)}{v:Nat}(h:¬ v%256=0):Xh (fun i=>if (v+255) / 256<=i then U else M i) (v / 256) (v%256)=Vq M v:=by
 funext i;unfold Vq Xh;by_cases e:i=v / 256
 . subst e
   have e1:(if (v+255) / 256<=v / 256 then U else M (v / 256))=M (v / 256):=AE (by omega);rw[AC rfl,AE (by omega)];show Option.map _ (if (v+255) / 256<=v / 256 then U else M (v / 256))=_
   rw[e1];cases hm:M (v / 256)
   . rfl
   . next l=>
     show I _=I (if v<256*(v / 256)+256 then _ else l)
     rw[AC (by omega),show v-256*(v / 256)=v%256 by omega]
 . rw[AE e]
   show(if (v+255) / 256<=i then U else M i)=_
   by_cases c:v<=256*i
   . rw[AC c,AC (by omega)]
   . rw[AE c,AE (by omega)]
     cases hm:M i
     . rfl
     . next l=>
       show I l=I (if v<256*i+256 then _ else l)
       rw[AE (by omega)]
theorem Py(h:Flt w P d p X S N O kk F bf n sz M Q)(h1:1<=n)(Bu:n<48)(hQ:Q.length<=34){v:Nat}(hv:v<=35328):
 AA Ae 35 #[Am (I ⟨bf,0,U⟩),J H n,J H v] w fun e w'=>e=Ag (J H 0)/\FlO w P d p X S N O kk F bf n Q v (Vq M v) 1 R5 w':=by
 have KF0:=MF h.md.rd h1 Bu h.ft.k0;have hx:=h.md.pl.tab.n.get Bu;generalize N.getD n []=x at KF0 hx;obtain⟨kd,ln,sz',d0,d1,d2,d3,d4,d5,d6,d7,d8,d9,mp,rfl⟩:=JU hx;have KF:Hid (AA Ae 46 #[Am (I ⟨bf,0,U⟩),J H n] w fun e w'=>e=Ag (AO #[BD #[J H kd,J H ln,J H sz',J H d0,J H d1,J H d2,J H d3,J H d4,J H d5,J H d6,J H d7,J H d8,J H d9,J H mp],J H 0])/\At w.heap.size w w'):=vJ KF0;obtain⟨c,hc⟩:=nm ((v+255) / 256);have e0:(0:Int)<=(v:Int):=by omega
 have e1:(v:Int)<=35328:=by omega
 have e2:((v:Int)+256-1).tdiv 256=(c:Int):=by rw[Int.tdiv_eq_ediv_of_nonneg (by omega)];omega
 have e3:((v:Int)+256-1) / 256=(c:Int):=by omega
 by_cases hz:v%256=0
 . have e4:(v:Int).tmod 256=0:=by rw[D9 (by omega)];omega
   have e5:(v:Int)%256=0:=by omega
   have KC:Hid (∀ V,At w.heap.size w V->AA Ae 72 #[Am (I ⟨bf,0,U⟩),J H n,J H c] V fun e w2=>e=Ag (J H 0)/\
    AA Ae 49 #[Am (I ⟨bf,0,U⟩),J H n,J H v] w2 fun e w'=>e=Ag (J H 0)/\FlO w P d p X S N O kk F bf n Q v (Vq M v) 1 R5 w'):=vJ fun V hV=>by
    refine((h.low hV).cut h1 Bu (by omega) (a:=c) (by omega)).mono ?_;rintro e w2 ⟨he,P2,X2,N2,O2,F2,Q2,a2,b2,c2,d2,f2,_⟩;refine⟨he,(a2.size h1 Bu (by omega) hv).mono ?_⟩;rintro e w3 ⟨he,ho⟩;rw[hc,kU hz] at ho;obtain⟨P',X',N',O',F',Q',a,b,c,e2,f,g⟩:=FlO.then (j:=0) b2 c2 d2 ((Chg.of_below hV).trans f2) ho;exact⟨he,P',X',N',O',F',Q',a,b,c,by omega,f,g⟩
   clear h hx KF0 hz hc;go_enter func35,ntmps35
   go_wp2_with (first
    |(go_at_call 46;refine KF.out.mono ?_;rintro e w2 ⟨rfl,hb2⟩
      have hb3:=hb2.trans ((Ay w2 (Ar #[J H kd,J H ln,J H sz',J H d0,J H d1,J H d2,J H d3,J H d4,J H d5,J H d6,J H d7,J H d8,J H d9,J H mp] 80)).mono hb2.size))
    |(go_at_call 72;refine(KC.out _ hb3).mono ?_;rintro e w4 ⟨rfl,KS⟩)
    |(go_at_call 49;refine KS.mono ?_;rintro e w5 ⟨rfl,hO⟩))
   go_ret;exact⟨rfl,hO⟩
 . obtain⟨q,hq⟩:=nm (v / 256)
   obtain⟨o,ho⟩:=nm (v%256);have e4:(v:Int).tmod 256=(o:Int):=(by rw[D9 (by omega)];omega);have e5:(v:Int).tdiv 256=(q:Int):=(by rw[Int.tdiv_eq_ediv_of_nonneg (by omega)];omega);have e6:(v:Int)%256=(o:Int):=(by omega);have e7:(v:Int) / 256=(q:Int):=(by omega);have e8:(0:Int)<(o:Int):=by omega
   have KC:Hid (∀ V,At w.heap.size w V->AA Ae 72 #[Am (I ⟨bf,0,U⟩),J H n,J H c] V fun e w2=>e=Ag (J H 0)/\
    AA Ae 73 #[Am (I ⟨bf,0,U⟩),J H n,J H q,J H o] w2 fun e w3=>e=Ag (J H 0)/\
    AA Ae 49 #[Am (I ⟨bf,0,U⟩),J H n,J H v] w3 fun e w'=>e=Ag (J H 0)/\FlO w P d p X S N O kk F bf n Q v (Vq M v) 1 R5 w'):=vJ fun V hV=>by
    refine((h.low hV).cut h1 Bu (by omega) (a:=c) (by omega)).mono ?_;rintro e w2 ⟨he,P2,X2,N2,O2,F2,Q2,a2,b2,c2,d2,f2,_⟩;refine⟨he,(fJ a2 h1 Bu (i:=q) (o:=o) (by omega) (by omega) (by omega)).mono ?_⟩;rintro e w3 ⟨he3,P3,X3,N3,O3,F3,Q3,a3,b3,c3,d3,f3,_⟩;refine⟨he3,(a3.size h1 Bu (by omega) hv).mono ?_⟩;rintro e w4 ⟨he4,ho4⟩;rw[hc,hq,ho,lr hz] at ho4;have h34:=FlO.then (j:=1) b3 c3 d3 f3 ho4;obtain⟨P',X',N',O',F',Q',a,b,c,e2,f,g⟩:=FlO.then (j:=0) b2 c2 d2 ((Chg.of_below hV).trans f2) h34;exact⟨he4,P',X',N',O',F',Q',a,b,c,by omega,f,g⟩
   clear h hx KF0 hz hc hq ho;go_enter func35,ntmps35
   go_wp2_with (first
    |(go_at_call 46;refine KF.out.mono ?_;rintro e w2 ⟨rfl,hb2⟩
      have hb3:=hb2.trans ((Ay w2 (Ar #[J H kd,J H ln,J H sz',J H d0,J H d1,J H d2,J H d3,J H d4,J H d5,J H d6,J H d7,J H d8,J H d9,J H mp] 80)).mono hb2.size))
    |(go_at_call 72;refine(KC.out _ hb3).mono ?_;rintro e w4 ⟨rfl,KW⟩)
    |(go_at_call 73;refine KW.mono ?_;rintro e w5 ⟨rfl,KS⟩)
    |(go_at_call 49;refine KS.mono ?_;rintro e w6 ⟨rfl,hO⟩))
   go_ret;exact⟨rfl,hO⟩
end
section
variable {w0 w:Ah}{d p:Aq}{kk bf n sz m sm:Nat}{M Mm:Nat->Option (List Int)}{P:Nat->Prop}
structure FarF (w0:Ah) (P:Nat->Prop) (bf:Nat) (Z:Nat->Prop):Prop where
 hi:∀ x,Z x->w0.heap.size<=x
 ap:∀ x,P x->¬ Z x
 nf:¬ Z bf
end
end
section
open Go.RowKit
theorem MO(e:Int × ByteArray):Tg e=(([] ++ BN e.1 2) ++ [(e.2.size:Int)]) ++ Fx e.2:=by
 rw[Tg,B0];simp
theorem UC:(Ae.info? 30).map (fun i=>(i.zero,i.size,i.bytes))=I (I (BD #[J H 0,.string ByteArray.empty]),2,24):=by kernel_rfl
end
section
open Go.RowKit BM
theorem FrmL.set{l:List (Int × ByteArray)}(h:FrmL l){e:Int × ByteArray}(he:C3 e=AL)(i:Nat):FrmL (l.set i e):=fun x hx=>by
 rcases Dr hx with h1|h1
 . exact h x h1
 . rw[h1];exact he
theorem kf{l:List (Int × ByteArray)}(h:FrmL l){e:Int × ByteArray}(he:C3 e=AL){i:Nat}(hi:i<l.length):DW (l.set i e)=splice (DW l) (16*i) (Db e):=by
 have M0:=Di (CF he).2;unfold splice;rw[List.set_eq_take_append_cons_drop,AC hi,M0,show 16*i+16=16*(i+1) by omega,OH l h i (by omega),SL l h (i+1) (by omega),GX];congr 1
section
variable {M:Nat->Option (List Int)}
theorem qx(hk:OkB M){n s:Nat}(h:n<=s):Md (Vq M n) 0 n=(Md M 0 s).take n:=by
 refine b7 (by rw[AK,Ek];omega) fun i hi=>?_
 rw[Bm,qn hk,AC hi,An,AZ,AC hi,<- An,IT M 0 (by omega),Bm]
end
section
variable {sz:Nat}{M:Nat->Option (List Int)}{l:List (Int × ByteArray)}
theorem DirF.get(h:DirF sz M l){i:Nat}(hi:i<l.length):Md M (16*i) 16=Db l[i]:=by
 rw[<- Le h.frm hi,<- h.by_];have hs:=h.zs;apply Bi
 . rw[Ek,AK,AU,Ek];omega
 . intro j h1 h2
   rw[Ek] at h1;rw[C7,List.getElem_drop];have e1:=IT M (16*i) h1;rw[An,AS (by rw[Ek];exact h1)] at e1;have e2:=IT M 0 (n:=sz) (i:=16*i+j) (by omega);rw[An,AS (by rw[Ek];omega),Bm] at e2;exact e1.trans e2.symm
theorem DirF.set(h:DirF sz M l){e:Int × ByteArray}(he:C3 e=AL){i:Nat}(hi:i<l.length):DirF sz (wrL M (16*i) (Db e)) (l.set i e):=by
 have M0:=Di (CF he).2;have hb:=Oa (CF he).2;have hs:=h.zs;refine⟨h.ok.wrL _ _ hb,h.frm.set he i,by rw[AJ];exact hs,?_⟩;have:=UP h.ok hb (a:=16*i) (n:=sz) (by omega);rw[M0,show max sz (16*i+16)=sz by omega,h.by_] at this;rw[this,kf h.frm he hi]
theorem DirF.cut(h:DirF sz M l){k:Nat}(hk:k<=l.length):DirF (16*k) (Vq M (16*k)) (l.take k):=by
 have hs:=h.zs;exact⟨h.ok.rs _,h.frm.take k,by rw[AK];omega,by rw[qx h.ok (s:=sz) (by omega),h.by_,OH l h.frm k hk]⟩
end
end
section
open Go.RowKit
theorem GL(i:Int)(s:ByteArray)(B:Bool)(h:C3 (i,s)=B)(w:Ah):AA Ae 34 #[BD #[J H i,.string s]] w fun e w'=>e=Ag (A1 B)/\At w.heap.size w w':=by
 have hob:=Ay w (Ar #[J H i,.string s] 30);unfold C3 at h;by_cases h1:1<=i
 . by_cases h2:i<48
   . have hn:Er s=B:=by
      rw[<- h];show _=(decide (1<=i) && (decide (i<48) && Er s));rw[AF h1,AF h2];rfl
     have K:=vJ (fun W=>Ju s B hn W);have h3:i<=47:=(by omega);clear h hn h2;go_enter func34,ntmps34;go_wp2_with (go_at_call 24;refine(K.out _).mono ?_;rintro e w' ⟨rfl,rfl⟩)
     go_ret;exact⟨rfl,hob⟩
   . have HB:Hid (AI=B):=vJ (by rw[<- h];show _=(decide (1<=i) && (decide (i<48) && Er s));rw[AF h1,AG h2];rfl)
     have h3:¬ i<=47:=(by omega);clear h h2;go_enter func34,ntmps34;go_wp2;go_ret;exact⟨CV HB.out,hob⟩
 . have HB:Hid (AI=B):=vJ (by rw[<- h];show _=(decide (1<=i) && (decide (i<48) && Er s));rw[AG h1];rfl)
   clear h;go_enter func34,ntmps34;go_wp2;go_ret;exact⟨CV HB.out,hob⟩
theorem F0{ops:Array BS}{o:BS}{a:Act}{w:Ah}{K:Act->Ah->Prop}{Q:Exit->Act->Ah->Prop}{E:Prop}(Dn:o.guard=U)(s x:Operand)
 (ho:o.op=.call { callee:=.builtin .append,args:=#[s,x],argTypes:=#[49,49] })
 (B:Nat) (v:Aq) (l:List Int) (hs:a.eval s=v) (hown:OB w B v l) (u:Aq) (m:List Int) (hx:a.eval x=u) (hr:BSl w u m) (hm:0<m.length)
 (hlen:l.length+m.length<=140737488355328) (hB:B<=w.heap.size)
 (h:∀ v' w',OB w' B v' (l ++ m)->At B w w'->w.grownBy w' v.ownBlock->K (a.put o.dst v') w'):
 if Region.wanted o (yielded ops a.tmps)=AL then BS.wp Ae o a w K Q else E:=by
 have hw:Region.wanted o (yielded ops a.tmps)=AL:=by simp[Region.wanted,Dn]
 rw[AC hw];obtain⟨i,h2,h3,h4,h5⟩:=By F7;obtain⟨ao,cap,rfl,Cm⟩:=hr.shape;have hby:=CS hown.1 hr.1;have e1:(l ++ m).length=l.length+m.length:=Ax;have e2:(l ++ m).map (J .u8)=l.map (J .u8) ++ m.map (J .u8):=Cv;cases ao with
 |none=>
  rcases hr.2 with⟨_,hl⟩| ⟨_,_,hv,_⟩
  . rw[hl] at hm;simp at hm
  . simp at hv
 |some ad=>
  have CX:∀ j v,(m.map (J .u8))[j]? =I v->w.cell? (ad.add j)=I v:=by
   intro j v hj;have MY:j<m.length:=by simpa using (Bj.1 hj).1
   obtain⟨ad',he,hc⟩:=ED hr (fun _ _=>rfl) m.length (by simp;omega);obtain rfl:ad=ad':=by simpa using he
   exact hc j v (by simpa using hj)
  refine wp_append_own w s x 49 ho B 5 i (J .u8 0) 1 1 underlying49 h2 h3 h4 h5 rfl (by decide) v l.length _ hs hown.2 ad m.length cap _ hx (by simp) CX (ints_oneCell _ _) (by simp only[maxLen];omega) (by omega) hB fun v' w' h6 h7 _=>?_
  exact h v' w' ⟨hby,by rw[e1,e2];exact h6⟩ ((AM _ _).grown h7 hB fun k hk=>(hown.2.lt k hk).1) h7
theorem He{ops:Array BS}{o:BS}{a:Act}{w:Ah}{K:Act->Ah->Prop}{Q:Exit->Act->Ah->Prop}{E:Prop}(Dn:o.guard=U)(s x:Operand)
 (ho:o.op=.call { callee:=.builtin .append,args:=#[s,x],argTypes:=#[49,9] })
 (B:Nat) (v:Aq) (l:List Int) (hs:a.eval s=v) (hown:OB w B v l) (n:ByteArray) (hx:a.eval x=.string n) (hlen:l.length+n.size<=1000000) (hB:B<=w.heap.size)
 (h:∀ v' w',OB w' B v' (l ++ Fx n)->At B w w'->w.grownBy w' v.ownBlock->K (a.put o.dst v') w'):
 if Region.wanted o (yielded ops a.tmps)=AL then BS.wp Ae o a w K Q else E:=by
 have hw:Region.wanted o (yielded ops a.tmps)=AL:=by simp[Region.wanted,Dn]
 rw[AC hw];obtain⟨i,h2,h3,h4,h5⟩:=By F7;obtain⟨v',w',hr,h6,h7,_⟩:=Lib.run_append_own_string (P:=Ae) w B 49 9 o.type 5 i underlying49 underlying9 h2 h3 h4 h5 v l.length _ hown.2 n (by simp only[maxLen];omega) (by omega) hB;unfold BS.wp execOp;simp only[ho,resolve,invoke,builtin,DE,Sem.run_pure,Result.andThen_ok,Jd,J5,Sd,hs,hx,hr];refine h v' w' ⟨CS hown.1 (ND n),?_⟩ ((AM _ _).grown h7 hB fun k hk=>(hown.2.lt k hk).1) h7;rw[Ax,Cv,DP,<- MP];exact h6
theorem GW{w w':Ah}{row:Option Nat}(h:w.grownBy w' row)(b o:Nat)(hb:b<w.heap.size)(hne:∀ k,row=I k->k≠b):w'.cell? ⟨b,o,U⟩=w.cell? ⟨b,o,U⟩:=by
 apply Bh;exact h.block b hb (fun e=>hne b e.symm rfl)
theorem UO(W:Ah)(x:Int)(h:0<=x/\x<=255):BSl (W.alloc (Ar #[J .u8 x] 5)) (Ak (I ⟨W.heap.size,0,U⟩) 1 1) [x]:=by
 have MZ:=Aw W (Ar #[J .u8 x] 5);refine⟨ML x h,Ba ⟨_,1,rfl,AB _,fun j hj=>?_⟩⟩;have tv:j=0:=by simpa using hj
 subst tv;refine⟨by simp,rfl,?_⟩;rw[Az _ _ _ _ _ _ MZ];rfl
theorem OE(i:Int)(s:ByteArray)(h:C3 (i,s)=AL)(w:Ah):AA Ae 39 #[BD #[J H i,.string s]] w (JZ w (Db (i,s))):=by
 have hn:=Ln h;have hl:s.size<=13:=(CF h).2;have hi0:1<=i:=hn.1;have hi1:i<48:=hn.2.1;obtain⟨z,hz⟩:∃ z:Int,z=(s.size:Int):=⟨_,rfl⟩;have u7:0<=z/\z<=13:=by omega
 have HP:Hid (Db (i,s)=((([] ++ BN i 2) ++ [z]) ++ Fx s) ++ AD (16-(3+s.size)) 0):=vJ (by
  rw[Db,MO,hz];congr 2;show 13-s.size=_;omega)
 have pJ:IntKind.u64.wrap i=i:=Dh _ (by omega);have hw8:IntKind.u8.wrap z=z:=by rw[IntKind.wrap_u8];omega
 rw[hz] at hw8;have K1:=vJ (fun W=>GO (IL W) (by simp) i 2 2 (by omega) (by omega) rfl (by omega) (by omega));have HL1:Hid (([] ++ BN i 2:List Int).length+[z].length<=140737488355328):=vJ (by simp[Bc]);have HL2:Hid ((([] ++ BN i 2) ++ [z]:List Int).length+s.size<=1000000):=vJ (by simp[Bc];omega);have HL3:Hid (((([] ++ BN i 2) ++ [z]) ++ Fx s:List Int).length=3+s.size):=vJ (by simp[Bc,DP];omega);have hb1:=Ay w (Ar #[J H i,.string s] 30);have Sj:=Aw w (Ar #[J H i,.string s] 30);obtain⟨W1,hW1⟩:=nm (w.alloc (Ar #[J H i,.string s] 30));rw[<- hW1] at hb1 Sj;have H1:Hid (w.alloc (Ar #[J H i,.string s] 30)=W1):=vJ hW1.symm;have En:w.heap.size<W1.heap.size:=by rw[hW1];simp
 have HC1:Hid (W1.cell? ⟨w.heap.size,1,U⟩=I (.string s)):=vJ (by rw[Az _ _ _ _ _ _ Sj];rfl);have HB1:=vJ hb1;have HZ:=vJ hz;clear hn h hW1 Sj hb1 hz;go_enter func39,ntmps39
 go_wp2_with (first
  |(go_at_call 79;rw[H1.out];(with_reducible refine(K1.out _).mono ?_);rintro e w2 ⟨v2,rfl,hob2,hb2⟩))
 have d1:w2.drew.cell? ⟨w.heap.size,1,U⟩=I (.string s):=(hb2.cell (p:=⟨w.heap.size,1,U⟩) En).trans HC1.out;have Pa:w.heap.size<w2.drew.heap.size:=AH En hb2.size;have HB2:Hid (At w.heap.size w w2.drew):=vJ (A2 (HB1.out.trans (hb2.mono (BO En))) 1);have hba:=Ay w2.drew (Ar #[J .u8 (s.size:Int)] 5);have hbs:=UO w2.drew (s.size:Int) (by have:=HZ.out;omega);have e1:(w2.drew.alloc (Ar #[J .u8 (s.size:Int)] 5)).cell? ⟨w.heap.size,1,U⟩=I (.string s):=(hba.cell (p:=⟨w.heap.size,1,U⟩) Pa).trans d1;have HOA:Hid (OB (w2.drew.alloc (Ar #[J .u8 (s.size:Int)] 5)) W1.heap.size v2 ([] ++ BN i 2)):=vJ (OB.below (w:=w2.drew) hob2 hba);have si:w.heap.size<(w2.drew.alloc (Ar #[J .u8 (s.size:Int)] 5)).heap.size:=AH Pa hba.size;have HSA:Hid (W1.heap.size<=(w2.drew.alloc (Ar #[J .u8 (s.size:Int)] 5)).heap.size):=vJ (AT hb2.size hba.size);have HBA:=vJ (HB2.out.trans (hba.mono HB2.out.size));have HBS:=vJ hbs;rw[HZ.out] at HL1 HL2 HL3 HP;have HNE:=vJ (fun k (hk:v2.ownBlock=I k)=>(show k≠w.heap.size by have h1:=hob2.2.lt k hk;omega));clear hba hbs hob2 hb2 u7
 go_region_held3 (fun W=>W.cell? ⟨w.heap.size,1,U⟩=I (.string s)) (first|exact g1|exact f1|exact e1|exact d1) (first
  |(refine F0 rfl (.tmp 8) (.tmp 13) rfl W1.heap.size v2 ([] ++ BN i 2) rfl HOA.out _ [(s.size:Int)] rfl HBS.out (Nat.zero_lt_one) HL1.out HSA.out ?_
    intro v3 w3 hob3 hb3 hg3;have f1:=(GW hg3 w.heap.size 1 si HNE.out).trans e1;have hs3:=AH si hb3.size;have HS3:=vJ (AT HSA.out hb3.size);have HB3:=vJ (HBA.out.trans (hb3.mono (BO En))))
  |(refine He rfl (.tmp 14) (.tmp 16) rfl W1.heap.size v3 (([] ++ BN i 2) ++ [(s.size:Int)]) rfl hob3 s rfl HL2.out HS3.out ?_
    intro v4 w4 hob4 hb4 hg4;have g1:=(GW hg4 w.heap.size 1 hs3 (fun k hk=>(show k≠w.heap.size by have h1:=hob3.2.lt k hk;omega))).trans f1;have HS4:=vJ (AT HS3.out hb4.size);have HB4:=vJ (HB3.out.trans (hb4.mono (BO En)))))
 obtain⟨ao4,cap4,rfl,_⟩:=hob4.bsl.shape;have HOB4:=vJ hob4;rw[HL3.out] at HOB4 |-
 obtain⟨N,hN⟩:=nm (3+s.size);rw[<- hN] at HOB4 HL3 HP |-
 have hN16:N<=16:=by omega
 have HLE:Hid ((([] ++ BN i 2) ++ [(s.size:Int)] ++ Fx s).length+(16-N)<=140737488355328):=vJ (by rw[HL3.out];omega);have HM:Hid ((16:Int)-(N:Int)=((16-N:Nat):Int)):=vJ (by omega);clear hN hob4 hb4 hg4 g1 f1 e1 d1 hs3 si hob3 hb3 hg3;go_wp2_with (at_builtin;refine Ev w4 rfl (.tmp 18) (.tmp 21) rfl W1.heap.size _ (([] ++ BN i 2) ++ [(s.size:Int)] ++ Fx s) rfl HOB4.out _ (16-N) rfl HM.out HLE.out HS4.out ?_;intro v8 w8 hob8 hb8)
 go_ret;refine⟨_,rfl,?_,HB4.out.trans (hb8.mono (BO En))⟩;rw[HP.out];exact hob8.more (BO En)
end
section
open Go.RowKit BM
def EV(n:ByteArray):List BC->Nat
 |[]=>0
 |x :: l=>if JK x.2 n then EV n l+1 else 0
def JE(e:BC)(l:List BC):List BC:=l.take (EV e.2 l) ++ e :: l.drop (EV e.2 l)
def Hr:List BC->List BC->List BC
 |out,[]=>out
 |out,e :: l=>Hr (JE e out) l
def Jb(l:List BC):Prop:=l.Pairwise fun x y=>JK x.2 y.2
theorem bM(n:ByteArray):∀ l,EV n l<=l.length
 |[]=>AB 0
 |x :: l=>by
  unfold EV;have:=bM n l;rw[Ch];split <;> omega
theorem LS(n:ByteArray):∀ (l:List BC) (i:Nat) (h:i<l.length),i<EV n l->JK (l[i]).2 n
 |[],i,h,_=>absurd h (A8 i)
 |x :: l,i,h,hp=>by
  unfold EV at hp;split at hp
  . next hx=>
    cases i with
    |zero=>exact hx
    |succ i=>exact LS n l i (by simpa using h) (by omega)
  . omega
theorem L3(n:ByteArray):∀ (l:List BC) (h:EV n l<l.length),¬ JK (l[EV n l]).2 n
 |[],h=>absurd h (A8 _)
 |x :: l,h=>by
  by_cases hx:JK x.2 n
  . have e:EV n (x :: l)=EV n l+1:=by show(if JK x.2 n then EV n l+1 else 0)=_;rw[AC hx]
    have h':EV n l<l.length:=by rw[e] at h;simpa using h
    have:=L3 n l h';simp only[e,Ap];exact this
  . have e:EV n (x :: l)=0:=by show(if JK x.2 n then EV n l+1 else 0)=_;rw[AE hx]
    simp only[e,Ao];exact hx
theorem Jw(e:BC)(l:List BC):(JE e l).Perm (e :: l):=by
 unfold JE;refine List.perm_middle.trans ?_;rw[Be]
theorem Ll{l:List BC}(h:Jb l){e:BC}(hn:∀ x∈l,x.2≠e.2):Jb (JE e l):=by
 have h1:∀ x∈l.take (EV e.2 l),JK x.2 e.2:=fun x hx=>by
  obtain⟨i,hi,rfl⟩:=BW hx;rw[AK] at hi;rw[C7];exact LS _ l i (by omega) (by omega)
 have h2:∀ x∈l.drop (EV e.2 l),JK e.2 x.2:=fun x hx=>by
  obtain⟨i,hi,rfl⟩:=BW hx;rw[AU] at hi;rw[List.getElem_drop];have hp:EV e.2 l<l.length:=by omega
  have h3:JK e.2 (l[EV e.2 l]).2:=(Rn (hn _ (Bf hp))).resolve_left (L3 e.2 l hp);by_cases c:i=0
  . subst c;exact h3
  . exact Ib h3 (Em.1 h _ _ hp (by omega) (by omega))
 unfold JE Jb;rw[List.pairwise_append];refine⟨h.sublist (List.take_sublist _ _),Cl.2 ⟨h2,h.sublist (List.drop_sublist _ _)⟩,fun x hx y hy=>?_⟩;rcases Cy.1 hy with rfl|hy
 . exact h1 x hx
 . exact Ib (h1 x hx) (h2 y hy)
theorem Gj:∀ (l out:List BC),(Hr out l).Perm (out ++ l)
 |[],out=>by rw[BB];exact List.Perm.refl _
 |e :: l,out=>by
  refine(Gj l (JE e out)).trans ?_;refine((Jw e out).append_right l).trans ?_;exact List.perm_middle.symm
theorem Fm:∀ (l out:List BC),Jb out->(out ++ l).Pairwise (fun x y=>x.2≠y.2)->Jb (Hr out l)
 |[],out,h,_=>h
 |e :: l,out,h,hn=>by
  refine Fm l (JE e out) (Ll h fun x hx=>?_) ?_
  . exact(List.pairwise_append.1 hn).2.2 x hx e B7
  . refine((Jw e out).append_right l).symm.pairwise ?_ fun h k=>h k.symm
    exact List.perm_middle.pairwise hn fun h k=>h k.symm
theorem Ni:∀ {l m:List BC},l.Perm m->Jb l->Jb m->l=m
 |[],m,hp,_,_=>(List.nil_perm.1 hp).symm ▸ rfl
 |x :: l,[],hp,_,_=>absurd hp.length_eq (by simp)
 |x :: l,y :: m,hp,hl,hm=>by
  have e:x=y:=by
   have hx:x∈y :: m:=hp.subset B7;have hy:y∈x :: l:=hp.symm.subset B7;rcases Cy.1 hx with e|hx
   . exact e
   . rcases Cy.1 hy with e|hy
     . exact e.symm
     . exact absurd ((Cl.1 hl).1 y hy) (L4 ((Cl.1 hm).1 x hx))
  subst e;rw[Ni (List.Perm.cons_inv hp) (Cl.1 hl).2 (Cl.1 hm).2]
theorem Ord.srt{l:List BC}(h:Ord l)(hn:l.Pairwise fun x y=>x.2≠y.2):Jb l:=
 (h.and hn).imp fun⟨a,b⟩=>(Rn b).resolve_right a
end
section
open Go.RowKit Go.ChangeShapes Go.WideShapes
theorem Ox:Ae.cellsOf 30=2:=by kernel_rfl
theorem LI:Ae.cellsOf 3=1:=by kernel_rfl
theorem Ot:Ae.cellsOf 9=1:=by kernel_rfl
end
end Go.Proofs.YtdefiimcmecnnaaGreat
