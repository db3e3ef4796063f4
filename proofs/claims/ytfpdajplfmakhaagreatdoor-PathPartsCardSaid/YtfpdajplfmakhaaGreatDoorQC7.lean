/- What the law rests on. -/
import Derived.Test.YtfpdajplfmakhaaGreatDoorQC6
open Go.Value renaming int->J,slice->Ak,pointer->Al,tuple->AH,bool->AP,agg->BN
open Go.IntKind renaming i64->Z
open Go.Proofs.Tryz renaming prog->Ae
open Option renaming none->I,some->U
open Go renaming World->r,Value->Ao,Calls->Av,Oper->BE,wpList->Cf,TypeId->Cg
open Go.Ending renaming returned->Aj
open Go.Obj renaming cells->Am
open Go.RowKit renaming Below->Ap
open List renaming replicate->Aw,length_cons->Bm,range->Bu
open Bool renaming false->Ay,true->AE
open Array renaming replicate->AK
open Or renaming inl->AU,inr->AW
namespace Go.Proofs.YtfpdajplfmakhaaGreatDoor
set_option maxHeartbeats 12000000
set_option linter.unusedVariables false
set_option maxRecDepth 100000
theorem AV:type_of% @List.setIfInBounds_toArray:=@List.setIfInBounds_toArray
theorem Dp:type_of% @List.length_range:=@List.length_range
theorem Fu:type_of% @Nat.mod_two_eq_zero_or_one:=@Nat.mod_two_eq_zero_or_one
theorem Ho:type_of% @List.ext_getElem?:=@List.ext_getElem?
section
open Go.RowKit BM
theorem T8:(Ae.info? 90).map (·.size)=U 3:=by kernel_rfl
theorem H4:(Ae.info? 44).map (·.size)=U 14:=by kernel_rfl
theorem Vs{fn:Func}{p u:Tmp}(h:fn.results=#[.cell p 44,.tmp u])(tmps:Array Ao)(w:r)(g:Nat)(T:Cg)(L:List Int)(x:Ao)(hL:L.length=14)(hp:tmps.getD p undef=Al (U ⟨g,0,I⟩))(hg:w.heap[g]? =U (iO L T))(hx:tmps.getD u undef=x):
 (results fn tmps).run Ae w=.ok (AH #[BN (iC L).toArray,x]) w:=by
 rw[results_cell_tmp h,hp,hx];simp only[asAddr,Sem.run_pure,Result.andThen_ok];rw[run_loadVar_row w g T 44 _ (0,0) _ hg Tryz.underlying44 rfl (by rw[H4];simp[iC,hL])];rfl
theorem FA{ops:Array BE}{rest:List BE}{o:BE}{a:Act}{w:r}{Q:Exit->Act->r->Prop}(Du:o.guard=I)(x y:Operand)(ho:o.op=.store 44 x y)
 (g:Nat) (hx:a.eval x=Al (U ⟨g,0,I⟩)) (L M:List Int) (hy:a.eval y=BN (iC L).toArray) (hL:L.length=14) (hM:M.length=14) (T:Cg) (hg:w.heap[g]? =U (iO M T))
 (h:∀ w',Wrote w w' g->w'.heap[g]? =U (iO L T)->Cf Ae ops Q rest (a.put o.dst undef) w'):Cf Ae ops Q (o :: rest) a w:=
 C0 Du 44 x y ho g _ hx hy T _ hg (by rw[H4];simp[iC,hL]) (by simp[iC,hL,hM]) (UB L) (h _ (Wrote.setRow _ _ _) (CC _ _ _ _ _ _ hg))
section
variable {w:r}{P:Nat->Prop}{d p:Ao}{X:XSt}{S:List Int}{N:List (List Int)}{bf:Nat}
theorem s_{n:Int}(hn:n<1\/47<n)(f:Ao)(W:r):Av Ae 34 #[f,J Z n] W fun e w'=>e=Aj (AH #[BN #[J Z 0,Ak I 0 0,J Z 0],J Z 1])/\Ap W.heap.size W w':=by
 have hb1:=As W (Am #[J Z 0,Ak I 0 0,J Z 0] 90);have hr1:=Ar W (Am #[J Z 0,Ak I 0 0,J Z 0] 90);obtain⟨w1,hw1⟩:=nm (W.alloc (Am #[J Z 0,Ak I 0 0,J Z 0] 90));rw[<- hw1] at hb1 hr1;have H1:=wM hw1.symm;have HR1:=wM hr1;have KP:=wM (dq n hn);clear hn hw1 hr1;go_enter Tryz.func34,Tryz.ntmps34;go_upto_region 2 with(go_at_call 63;rw[H1.out];refine(KP.out _).mono ?_;rintro e w' ⟨rfl,rfl⟩)
 have hr2:=HR1.out;go_wp2_with (with_reducible refine BD rfl 90 T8 (.tmp 4) (.tmp 18) rfl W.heap.size rfl _ _ _ _ _ _ rfl rfl rfl rfl _ hr2 ?_;intro w9 hw9 hr9)
 refine AS (DI rfl Tryz.underlying90 T8 _ _ W.heap.size _ _ _ _ _ rfl hr9 rfl) rfl ⟨rfl,hb1.trans (hw9.below (At _))⟩
theorem Px(h:SInv w P d p X)(hf:FsAt w bf p)(hT:Tab X.cur S N){n:Nat}(h0:1<=n)(BG:n<48){W:r}(hb:Ap w.heap.size w W):
 Av Ae 34 #[Al (U ⟨bf,0,I⟩),J Z n] W fun e w'=>∃ g,e=Aj (AH #[BN #[J Z (CW S (n / 8):Nat),Ak (U ⟨g,0,I⟩) 8 8,J Z (n%8:Nat)],J Z 0])/\W.heap.size<=g/\
  w'.heap[g]? =U (Am (nC (Jy N (n / 8))).toArray 44 (0,0))/\Ap W.heap.size W w':=by
 have ht:n / 8<6:=by omega
 have hj:n%8<8:=by omega
 have e1:(n:Int) / 8=((n / 8:Nat):Int):=by omega
 have e2:(n:Int)%8=((n%8:Nat):Int):=by omega
 have KP:=wM (Zo (n:Int) (by omega) (by omega));rw[e1,e2] at KP;clear e1 e2;obtain⟨t,htt⟩:=nm (n / 8);obtain⟨j,qw⟩:=nm (n%8);rw[<- htt] at KP ht |-
 rw[<- qw] at KP hj |-
 clear htt qw h0 BG;have hb1:=As W (Am #[J Z 0,Ak I 0 0,J Z 0] 90);have hr1:=Ar W (Am #[J Z 0,Ak I 0 0,J Z 0] 90);obtain⟨w1,hw1⟩:=nm (W.alloc (Am #[J Z 0,Ak I 0 0,J Z 0] 90));rw[<- hw1] at hb1 hr1;have H1:=wM hw1.symm;have Kr:=hb.trans (hb1.mono hb.size);have HR1:Hid (∀ V,Ap w1.heap.size w1 V->V.heap[W.heap.size]? =U (Am #[J Z 0,Ak I 0 0,J Z 0] 90 (0,0))):=wM fun V hv=>Bs hr1 hv
 have KS:=wM (LN h hf hT Kr);have HBW:=wM Kr;have KI:=wM (fun(V:r) (hv:Ap w.heap.size w V)=>Oj h hf hT ht hv);have h12:=hT.s12;have hin:=(E9 hT.sf ht).1;obtain⟨A,hA⟩:=nm (CW S t);obtain⟨T,ZQ⟩:=nm (Jy N t);rw[<- hA] at KI hin |-
 rw[<- ZQ] at KI |-
 have et:(t:Int)<6:=by omega
 have et0:¬ (t:Int)<0:=by omega
 have HSC:Hid (∀ (V V':r),V.heap.size<V'.heap.size->V'.heap[V.heap.size]? =U (Ca S 135)->V'.cell? ⟨V.heap.size,6+t,I⟩=U (J Z A)):=wM fun V V' _ hr=>by
  rw[Hv hr (6+t) (by omega),hin]
 clear h hf hT hb Kr hw1 hr1 hA ZQ hin ht;go_enter Tryz.func34,Tryz.ntmps34
 go_wp2_with (first
  |(go_at_call 63;rw[H1.out];refine(KP.out _).mono ?_;rintro e w' ⟨rfl,rfl⟩)
  |(go_at_call 64;refine KS.out.mono ?_;rintro e w2 ⟨rfl,hb2⟩)
  |(with_reducible refine CO rfl (.tmp 8) (.tmp 22) rfl w2.heap.size rfl S C8 rfl h12 rfl _ (Ar w2 _) ?_
    intro w3 hw3 hr3;have hb3:Ap w2.heap.size w2 w3:=(As w2 _).trans (hw3.below (At _));have hl3:=(Ah.1 hr3).1;have hb13:=hb2.trans (hb3.mono hb2.size);have c3:=HSC.out _ _ hl3 hr3)
  |(go_at_call 65;refine(KI.out _ (HBW.out.trans (hb13.mono HBW.out.size))).mono ?_;rintro e w4 ⟨g,rfl,hg4,hr4,hb4⟩
    have hb14:=hb13.trans (hb4.mono hb13.size);have hr6:=HR1.out _ hb14;have c4:=HSC.out _ _ (AA hl3 hb4.size) ((hb4.block _ hl3).trans hr3))
  |(with_reducible refine BD rfl 90 T8 (.tmp 4) (.tmp 47) rfl W.heap.size rfl _ _ _ _ _ _ rfl rfl rfl rfl _ hr6 ?_;intro w9 hw9 hr9))
 have hne:g≠W.heap.size:=by
  have:=hb1.size;have:=hb13.size;have:=(Ah.1 (HR1.out w1 (AC _ _))).1;omega
 refine AS (DI rfl Tryz.underlying90 T8 _ _ W.heap.size _ _ _ _ _ rfl hr9 rfl) rfl ⟨g,rfl,?_,(hw9.2.2.2.2 g hne).trans hr4,(hb1.trans (hb14.mono hb1.size)).trans (hw9.below (At _))⟩;have:=hb1.size;have:=hb13.size;omega
theorem He(h:SInv w P d p X)(hf:FsAt w bf p)(hT:Tab X.cur S N){n:Nat}(h0:1<=n)(BG:n<48){W:r}(hb:Ap w.heap.size w W):
 Av Ae 13 #[Al (U ⟨bf,0,I⟩),J Z n] W fun e w'=>e=Aj (AH #[BN (iC (N.getD n [])).toArray,J Z 0])/\Ap W.heap.size W w':=by
 have ht:n / 8<6:=by omega
 have hj:n%8<8:=by omega
 have hb1:=As W (iO zeroI 44);have hr1:=Ar W (iO zeroI 44);obtain⟨w1,hw1⟩:=nm (W.alloc (iO zeroI 44));rw[<- hw1] at hb1 hr1;have h1:W.alloc (Am #[J Z 0,J Z 0,J Z 0,J Z 0,J Z 0,J Z 0,J Z 0,J Z 0,J Z 0,J Z 0,J Z 0,J Z 0,J Z 0,J Z 0] 44)=w1:=by rw[hw1];rfl
 have Kr:=hb.trans (hb1.mono hb.size);have H1:=wM h1;have HR1:Hid (∀ V,Ap w1.heap.size w1 V->V.heap[W.heap.size]? =U (iO zeroI 44)):=wM fun V hv=>Bs hr1 hv
 have KF:=wM (Px h hf hT h0 BG Kr);obtain⟨A,hA⟩:=nm (CW S (n / 8));obtain⟨T,ZQ⟩:=nm (Jy N (n / 8));have hx:(Jy N (n / 8)).getD (n%8) []=N.getD n []:=by rw[PF N _ hj];congr 1;omega
 have M0:=hT.n.get BG;have h14:=To hT.n.l14 (n / 8);have qx:=Ie hT.n.len ht;rw[<- hA,<- ZQ] at KF;rw[<- ZQ] at hx h14 qx;obtain⟨x,Uu⟩:=nm (N.getD n []);rw[<- Uu] at hx M0 |-
 obtain⟨j,qw⟩:=nm (n%8);rw[<- qw] at KF hj hx;have HRG:Hid (∀ (V:r) (g:Nat),V.heap[g]? =U (Am (nC T).toArray 44 (0,0))->V.rangeAt g (j*14) (iC x)):=wM fun V g hr=>by
  have:=QO (f:=iC) (s:=14) (k:=j) hr (fun y hy=>by rw[Cz];exact h14 y hy) (by omega);rw[<- hx,An,AL (by omega)];exact this
 have HX14:=wM M0;have ej:(j:Int)<8:=by omega
 have u1:=Tryz.underlying44;clear h hf hT hb Kr h1 hw1 hr1 hA ZQ hx h14 qx Uu qw ht M0;go_enter Tryz.func13,Tryz.ntmps13
 go_wp2_with (first
  |(go_at_call 34;rw[H1.out];refine KF.out.mono ?_;rintro e w2 ⟨g,rfl,hg2,hr2,hb2⟩
    have hb23:=As w2 (Am #[J Z A,Ak (U ⟨g,0,I⟩) 8 8,J Z j] 90);have hb3:=hb2.trans (hb23.mono hb2.size);have hr3:=HR1.out _ hb3;have NS:=HRG.out _ g (Bs hr2 hb23))
  |(with_reducible refine Bw rfl 44 (.tmp 22) rfl g (j*14) rfl x _ NS u1 rfl (by rw[H4,HX14.out]) ?_)
  |(with_reducible refine FA rfl (.tmp 4) (.tmp 23) rfl W.heap.size rfl x zeroI rfl HX14.out rfl _ hr3 ?_;intro w9 hw9 hr9))
 refine AS (Vs rfl _ _ W.heap.size _ _ _ HX14.out rfl hr9 rfl) rfl ⟨rfl,(hb1.trans (hb3.mono hb1.size)).trans (hw9.below (At _))⟩
end
end
section
open Go.RowKit Go.Maps
theorem Ok{w w':r}{m b o:Nat}(h:w.grownBy w' (U m))(hb:b<w.heap.size)(hne:b≠m):w'.cell? ⟨b,o,I⟩=w.cell? ⟨b,o,I⟩:=by
 apply A5;exact h.block b hb fun e=>hne (A0 e)
theorem addS_mem{N:List Int}{n y:Int}:y∈D7 N n ↔ y∈N\/y=n:=by
 unfold D7;split
 . exact⟨AU,fun h=>h.elim id fun e=>by rw[e];assumption⟩
 . simp
section
variable {w:r}{P:Nat->Prop}{d p:Ao}{X:XSt}
theorem j9{Pd:Nat->Prop}{b be bp:Nat}{q:Int}{ek:List Int}{eg:Int->Ao}{ev:Int->List Int}{pk:List Int}{pg:Int->Ao}{pv:Int->List Int}{ds:DS}(h:SMem w Pd b be bp d q ek eg ev pk pg pv AE ds)
 {n:Int} {v:Ao} {l:List Int} (hv:BSl w v l) (hl:l.length=256) (hn:0<=n/\n<ds.F.length) (Ls:ds.F.length<=768) (hpl:pk.length<=37) (hroom:n∈pk\/pk.length<37):
 Av Ae 50 #[Al (U ⟨b,0,I⟩),.int Z n,v] w fun e w'=>e=Aj (.int Z 0)/\∃ u,SMem w' Pd b be bp d q ek eg ev (D7 pk n) (fun y=>if y=n then u else pg y) (fun y=>if y=n then l else pv y) AE ds/\
  (∀ g,u.ownBlock=U g->w.heap.size<=g/\g<w'.heap.size)/\w.heap.size<=w'.heap.size/\Ext (fun k=>k=bp) w w':=by
 have Uy:(Lit.int Z n).wf=AE:=JR (by omega);have KA:=wM (Fb h AE);have KH:=wM (OX h n);rw[Az hn] at KH;have KL:=wM (MG w n);rw[Az (by omega)] at KL;have c3:=h.c3;have hlo:=h.mp.look_ok Uy;have hlen:=fun ty=>h.mp.len ty
 have KC:=wM (fun W (hb:Ap w.heap.size w W)=>Ns (hv.below hb) (by rw[hl];decide));have HB:=wM (fun W (hb:Ap w.heap.size w W)=>h.below hb);have HW:=wM Uy;have HP:=wM hpl;have HLL:=wM hl;obtain⟨ao,cap,rfl,_⟩:=hv.shape;rw[hl] at KC |-
 have HBL:=wM h.bl;have HN:Hid (b<w.heap.size/\b≠bp):=wM ⟨h.bl,fun e=>h.nb.2 e.symm⟩;refine Av.mono (R:=fun e w'=>e=Aj (.int Z 0)/\∃ u w3,OB w3 w.heap.size u l/\Ap w.heap.size w w3/\Mp w' bp (D7 pk n) (fun y=>if y=n then u else pg y)/\w3.grownBy w' (U bp)/\w'.heap.size=w3.heap.size) ?_ ?_
 . obtain⟨uu,sy⟩:=nm ((if n∈pk then pg n else Ak I 0 0))
   rw[<- sy] at hlo;obtain⟨m,hm⟩:=nm pk.length;rw[<- hm] at hlen HP hroom;have HM:=wM hm;by_cases hin:n∈pk
   . rw[Az hin] at hlo
     clear h hv hn Ls hroom hpl Uy sy hin hl hm;go_enter Tryz.func50,Tryz.ntmps50
     go_wp2_with (first
      |(go_at_call 43;(with_reducible refine KA.out.mono ?_);rintro e w' ⟨rfl,rfl⟩)
      |(go_at_call 93;(with_reducible refine KH.out.mono ?_);rintro e w' ⟨rfl,rfl⟩)
      |(go_at_call 94;(with_reducible refine KL.out.mono ?_);rintro e w' ⟨rfl,rfl⟩))
     have KC1:=wM (KC.out w.drew (AM (AC _ _) 1));have d3:w.drew.cell? ⟨b,3,I⟩=U (.map (U bp)):=c3
     go_region_held3 (fun W=>W.cell? ⟨b,3,I⟩=U (.map (U bp))) (first|exact f3|exact e3|exact d3) (first
      |(go_at_call 95;(with_reducible refine KC1.out.mono ?_);rintro e w3 ⟨u,rfl,hob,hbe⟩
        have e3:=(hbe.cell (p:=⟨b,3,I⟩) HBL.out).trans c3;have HOB:=wM hob;have HBE:=wM (show Ap w.heap.size w w3 from(AM (AC _ _) 1).trans hbe);obtain⟨dd,gS⟩:=Blo.hdr (v:=u) ⟨hob.more (AT _),HLL.out⟩;obtain⟨w4,uQ,lO,hg4,hs4⟩:=(HB.out _ HBE.out).mp.store HW.out gS (by have:=HP.out;have:=HM.out;omega);have f3:w4.cell? ⟨b,3,I⟩=U (.map (U bp)):=(Ok hg4 (AA HBL.out HBE.out.size) HN.out.2).trans e3;have HM4:=wM lO;have HG4:=wM hg4;have HS4:=wM hs4;clear hob hbe gS lO hg4 hs4))
     go_wp2;go_ret;exact⟨rfl,u,w3,HOB.out,HBE.out,HM4.out,HG4.out,HS4.out⟩
   . have uR:(m:Int)<37:=by have:=hroom.resolve_left hin;omega
     rw[AB hin] at hlo;clear h hv hn Ls hroom hpl Uy sy hin hl hm;go_enter Tryz.func50,Tryz.ntmps50
     go_wp2_with (first
      |(go_at_call 43;(with_reducible refine KA.out.mono ?_);rintro e w' ⟨rfl,rfl⟩)
      |(go_at_call 93;(with_reducible refine KH.out.mono ?_);rintro e w' ⟨rfl,rfl⟩)
      |(go_at_call 94;(with_reducible refine KL.out.mono ?_);rintro e w' ⟨rfl,rfl⟩))
     have KC1:=wM (KC.out w.drew (AM (AC _ _) 1));have d3:w.drew.cell? ⟨b,3,I⟩=U (.map (U bp)):=c3
     go_region_held3 (fun W=>W.cell? ⟨b,3,I⟩=U (.map (U bp))) (first|exact f3|exact e3|exact d3) (first
      |(go_at_call 95;(with_reducible refine KC1.out.mono ?_);rintro e w3 ⟨u,rfl,hob,hbe⟩
        have e3:=(hbe.cell (p:=⟨b,3,I⟩) HBL.out).trans c3;have HOB:=wM hob;have HBE:=wM (show Ap w.heap.size w w3 from(AM (AC _ _) 1).trans hbe);obtain⟨dd,gS⟩:=Blo.hdr (v:=u) ⟨hob.more (AT _),HLL.out⟩;obtain⟨w4,uQ,lO,hg4,hs4⟩:=(HB.out _ HBE.out).mp.store HW.out gS (by have:=HP.out;have:=HM.out;omega);have f3:w4.cell? ⟨b,3,I⟩=U (.map (U bp)):=(Ok hg4 (AA HBL.out HBE.out.size) HN.out.2).trans e3;have HM4:=wM lO;have HG4:=wM hg4;have HS4:=wM hs4;clear hob hbe gS lO hg4 hs4))
     go_wp2;go_ret;exact⟨rfl,u,w3,HOB.out,HBE.out,HM4.out,HG4.out,HS4.out⟩
 . rintro e w' ⟨rfl,u,w3,hob,hbe,gT,hgr,Ed⟩
   have h3:=HB.out w3 hbe;have hblo:Blo w3 u l:=⟨hob.more (AT _),HLL.out⟩;have hk:∀ k,k<w3.heap.size->k≠bp->w'.heap[k]? =w3.heap[k]? :=fun k hk hn=>hgr.block k hk fun e=>hn (A0 e)
   have hext:Ext (fun k=>k=bp) w w':=(Ext.of_below hbe).trans (P2:=fun k=>k=bp) (Ext.of_grown hgr rfl) fun x _ e=>e
   refine⟨rfl,u,⟨?_,?_,h3.q0,?_,gT,h3.ne,?_,?_⟩,?_,hext.size,hext⟩
   . rw[hk b h3.bl fun e=>h3.nb.2 e.symm];exact h3.hb
   . exact h3.dk.same fun k hp=>hk k (h3.dk.lt k hp) fun e=>Mp.nd h3.dk h3.mp (e ▸ hp)
   . exact h3.me.keep (hk be h3.me.lt h3.ne)
   . exact fun x hx=>(h3.re x hx).keep fun g hg=>hk g ((h3.re x hx).lt hg) ((h3.re x hx).nm hg h3.mp)
   . intro x hx
     by_cases e:x=n
     . rw[Au e,Au e]
       exact hblo.keep fun g hg=>hk g (hblo.lt hg) (hblo.nm hg h3.mp)
     . rw[Ax e,Ax e]
       have hx':=(addS_mem.1 hx).resolve_right e;exact(h3.rp x hx').keep fun g hg=>hk g ((h3.rp x hx').lt hg) ((h3.rp x hx').nm hg h3.mp)
   . intro g hg
     have:=BO hob.2 g hg;exact⟨this.1,by rw[Ed];exact this.2⟩
theorem L9(h:SInv w P d p X){n:Int}{v:Ao}{l:List Int}(hv:BSl w v l)(hn: -9223372036854775808<=n/\n<=9223372036854775807)(hj:D6 n.toNat):Av Ae 50 #[p,.int Z n,v] w (OK SInv w P d p (ll X n l)):=by
 have h':=h;obtain⟨b,be,bp,Pd,q,ek,eg,ev,pk,pg,pv,rfl,hm,hpl,ho,hlt⟩:=h;have Ux:=hpl.ok.lst.1;have Ls:=hpl.n64.2;have Uy:(Lit.int Z n).wf=AE:=JR hn;have same:∀ z:Int,Av Ae 50 #[Al (U ⟨b,0,I⟩),.int Z n,v] w (fun e w'=>e=Aj (.int Z z)/\w=w')->Av Ae 50 #[Al (U ⟨b,0,I⟩),.int Z n,v] w (OK SInv w P d (Al (U ⟨b,0,I⟩)) (z,X)):=fun z h=>h.mono fun e w' ⟨he,hw⟩=>by
  subst hw;exact⟨he,P,h',Chg.refl _ _⟩
 have KA:=wM (Fb hm AE);have KH:=wM (OX hm n);have KL:=wM (MG w n);obtain⟨ao,cap,hvv,_⟩:=hv.shape;unfold ll;cases hw:X.wi
 . rw[Au rfl]
   refine same 17 ?_;rw[hw] at KA;clear h' hm hpl ho hlt Ux Ls same hv hj hn KH KL Uy;go_enter Tryz.func50,Tryz.ntmps50;go_wp2_with (go_at_call 43;(with_reducible refine KA.out.mono ?_);rintro e w' ⟨rfl,rfl⟩)
   go_ret;exact⟨rfl,rfl⟩
 . rw[Ax (by decide)]
   rw[hw] at KA hm;obtain⟨ZR,hcl,WQ⟩:=hpl.wi1 hw;by_cases ha:n<0\/(X.is.length:Int)<=n\/l.length≠256
   . rw[Au ha]
     refine same 1 ?_;by_cases hr:0<=n/\n<X.ds.F.length
     . rw[Az hr] at KH
       rw[Az (by omega)] at KL;have hl:¬ (l.length:Int)=256:=(by omega);obtain⟨L,hL⟩:=nm l.length;rw[<- hL] at hvv hl;subst hvv;clear h' hm hpl ho hlt Ux Ls same hv hj hn Uy ZR hcl WQ ha hr hL;go_enter Tryz.func50,Tryz.ntmps50
       go_wp2_with (first
        |(go_at_call 43;(with_reducible refine KA.out.mono ?_);rintro e w' ⟨rfl,rfl⟩)
        |(go_at_call 93;(with_reducible refine KH.out.mono ?_);rintro e w' ⟨rfl,rfl⟩)
        |(go_at_call 94;(with_reducible refine KL.out.mono ?_);rintro e w' ⟨rfl,rfl⟩))
       go_ret;exact⟨rfl,rfl⟩
     . rw[AB hr] at KH
       clear h' hm hpl ho hlt Ux Ls same hv hj hn Uy ZR hcl WQ ha hr KL;go_enter Tryz.func50,Tryz.ntmps50
       go_wp2_with (first
        |(go_at_call 43;(with_reducible refine KA.out.mono ?_);rintro e w' ⟨rfl,rfl⟩)
        |(go_at_call 93;(with_reducible refine KH.out.mono ?_);rintro e w' ⟨rfl,rfl⟩))
       go_ret;exact⟨rfl,rfl⟩
   . rw[Ax ha]
     have hr:0<=n/\n<X.ds.F.length:=(by omega);have hl:l.length=256:=(by omega);by_cases hf:n ∉ X.put/\37<=X.put.length
     . rw[Au hf]
       refine same 13 ?_;rw[ZR] at hf;rw[Az hr] at KH;rw[Az (by omega)] at KL;have c3:=hm.c3;have hlo:=hm.mp.look_ok Uy;have hlen:=fun ty=>hm.mp.len ty
       rw[Ax hf.1,AB hf.1] at hlo;have uR:37<=(pk.length:Int):=(by omega);obtain⟨m,hmm⟩:=nm pk.length;rw[<- hmm] at hlen uR;rw[hl] at hvv;subst hvv;clear h' hm hpl ho hlt Ux Ls same hv hj hn Uy ZR hcl WQ ha hr hf hl hmm;go_enter Tryz.func50,Tryz.ntmps50
       go_wp2_with (first
        |(go_at_call 43;(with_reducible refine KA.out.mono ?_);rintro e w' ⟨rfl,rfl⟩)
        |(go_at_call 93;(with_reducible refine KH.out.mono ?_);rintro e w' ⟨rfl,rfl⟩)
        |(go_at_call 94;(with_reducible refine KL.out.mono ?_);rintro e w' ⟨rfl,rfl⟩))
       go_ret;exact⟨rfl,rfl⟩
     . rw[Ax hf]
       refine(j9 hm hv hl hr (by omega) hpl.pl ?_).mono ?_
       . rw[ZR] at hf
         by_cases hin:n∈pk
         . exact AU hin
         . refine AW ?_
           have:¬ 37<=pk.length:=fun h=>hf ⟨hin,h⟩
           omega
       . rintro e w' ⟨rfl,u,hm',hu,Ed,hext⟩
         have hP:∀ k,k=bp->P k:=fun k e=>ho k (AW (AW (AW (AU e))))
         refine⟨rfl,wg P w w',⟨b,be,bp,Pd,q,ek,eg,ev,D7 pk n,_,_,rfl,hm',?_,?_,?_⟩,(hext.sub hP).chg⟩
         . have hnn:((n.toNat:Nat):Int)=n:=Int.toNat_of_nonneg hr.1
           refine { hpl with ok:={ hpl.ok with call:=fun _=>by show(X.call.set _ _).length=_;rw[AF];exact hcl },kp:=?_,pl:=?_,wi0:=fun e=>Bool.noConfusion (show AE=Ay from e),wi1:=fun _=>⟨?_,?_,?_⟩ }
           . intro x hx
             rcases addS_mem.1 hx with hx|rfl
             . exact hpl.kp x hx
             . exact⟨hr.1,by show x<(X.is.length:Int);omega,hj⟩
           . unfold D7
             split
             . exact hpl.pl
             . rename_i hin
               have:¬ 37<=pk.length:=fun h=>hf (by rw[ZR];exact⟨hin,h⟩)
               rw[AD,List.length_singleton];omega
           . show D7 X.put n=D7 pk n
             rw[ZR]
           . show(X.call.set _ _).length=_
             rw[AF];exact hcl
           . intro i hoi hi
             have hi':i<X.is.length:=hi;show(X.call.set n.toNat l).getD i []=_
             by_cases e:n.toNat=i
             . subst e
               rw[An,CB (by omega),Au (addS_mem.2 (AW hnn)),Au hnn];rfl
             . have hne:(i:Int)≠n:=fun e'=>e (by omega)
               rw[An,Bp e,<- An,WQ i hoi hi'];by_cases hin:(i:Int)∈pk
               . rw[Au hin,Au (addS_mem.2 (AU hin)),Ax hne]
               . rw[Ax hin,Ax fun h=>hin ((addS_mem.1 h).resolve_right hne)]
         . intro k hk
           rcases hk with hk|rfl|rfl|rfl| ⟨x,hx,hg⟩| ⟨x,hx,hg⟩
           . exact AU (ho k (AU hk))
           . exact AU (ho _ (AW (AU rfl)))
           . exact AU (ho _ (AW (AW (AU rfl))))
           . exact AU (ho _ (AW (AW (AW (AU rfl)))))
           . exact AU (ho k (AW (AW (AW (AW (AU ⟨x,hx,hg⟩))))))
           . by_cases e:x=n
             . have hg:(if x=n then u else pg x).ownBlock=U k:=hg
               rw[Au e] at hg;exact AW (hu k hg)
             . have hg:(if x=n then u else pg x).ownBlock=U k:=hg
               rw[Ax e] at hg;exact AU (ho k (AW (AW (AW (AW (AW ⟨x,(addS_mem.1 hx).resolve_right e,hg⟩))))))
         . rintro k (hk|hk)
           . exact AA (hlt k hk) Ed
           . exact hk.2
end
end
section
open Go.RowKit
theorem VR{α:Type}{cur vs:List α}{o n:Nat}(h:o+vs.length<=n)(hn:n<=cur.length):(splice cur o vs).take n=splice (cur.take n) o vs:=by
 apply Ho;intro i;unfold splice;by_cases h1:i<n
 . rw[AZ,Au h1]
   have e1:(List.take o cur).length=o:=(by rw[AJ];omega);have e2:(List.take o (List.take n cur)).length=o:=(by rw[AJ,AJ];omega);rw[List.getElem?_append,List.getElem?_append (l₁:=List.take o (List.take n cur)),e1,e2];by_cases h2:i<o
   . rw[Au h2,Au h2,AZ,AZ,Au h2,Au h2,AZ,Au h1]
   . rw[Ax h2,Ax h2,List.getElem?_append,List.getElem?_append]
     by_cases h3:i-o<vs.length
     . rw[Au h3,Au h3]
     . rw[Ax h3,Ax h3,Bk,Bk,AZ,Au (by omega)]
 . rw[A2 (by simp;omega),A2 (by simp;omega)]
theorem IQ{ops:Array BE}{rest:List BE}{op:BE}{a:Act}{w:r}{Q:Exit->Act->r->Prop}(Du:op.guard=I)(x y:Operand)(ho:op.op=.store 200 x y)
 (g k:Nat) (O:List (Int × Int)) (cur:Array Ao) (i j:Int) (hx:a.eval x=Al (U ⟨g,k*2,I⟩)) (hy:a.eval y=BN #[J .u16 i,J .u16 j])
 (hg:w.heap[g]? =U (Am cur 200 (0,0))) (hc:cur.toList.take (O.length*2)=Fy O) (hs:O.length*2<=cur.size) (hk:k<O.length)
 (h:∀ w' cur',Wrote w w' g->w'.heap[g]? =U (Am cur' 200 (0,0))->cur'.size=cur.size->cur'.toList.take (O.length*2)=Fy (O.set k (i,j))->Cf Ae ops Q rest (a.put op.dst undef) w'):Cf Ae ops Q (op :: rest) a w:=by
 have hz:(Ae.info? 200).map (·.size)=U 2:=by kernel_rfl
 have hg':w.heap[g]? =U (Am cur.toList.toArray 200 (0,0)):=by rw[Array.toArray_toList];exact hg
 have hl:k*2+(cO (i,j)).length<=cur.toList.length:=by rw[show(cO (i,j)).length=2 from rfl];simpa using (show k*2+2<=cur.size by omega)
 have h1:∀ v∈cO (i,j),v.oneCell'=AE:=fun v hv=>by simp[cO] at hv;rcases hv with rfl|rfl <;> rfl
 refine wpList_store_mid Du 200 x y ho g (k*2) #[J .u16 i,J .u16 j] hx hy (Fg hg' hl) (by rw[hz];rfl) (Gt (cs:=cO (i,j)) h1) ?_;have e:=Fk hg' hl h1;rw[show(#[J .u16 i,J .u16 j]:Array Ao).toList=cO (i,j) from rfl,e];refine h _ (splice cur.toList (k*2) (cO (i,j))).toArray (Wrote.setRow _ _ _) (CC _ _ _ _ _ _ hg) ?_ ?_
 . simp[splice,cO];omega
 . rw[List.toList_toArray,VR (show k*2+2<=_ by omega) (by rw[Array.length_toList];exact hs),hc,Fy,I7 (f:=cO) (s:=2) (fun x _=>LX x) k hk (i,j) (LX _)]
   rfl
section
variable {w:r}{M:Nat->Prop}{p:Ao}{n:Int}{O:List (Int × Int)}
theorem RSp.row(h:RSp w M p n O)(h0:0<O.length):∃ b g cap cur,p=Al (U ⟨b,0,I⟩)/\w.heap[b]? =U (Am #[J Z n,Ak (U ⟨g,0,I⟩) O.length cap] 148 (0,0))/\w.heap[g]? =U (Am cur 200 (0,0))/\cur.toList.take (O.length*2)=Fy O/\O.length<=cap/\cap<=maxLen/\cur.size=cap*2/\OwB O/\∀ k,M k ↔ k=b\/k=g:=by
 obtain⟨b,v,rfl,hb,⟨hB,ho⟩,hM⟩:=h;rcases ho.2 with⟨_,e0⟩| ⟨g,cap,cur,rfl,_,hg,Ii,Jq,Jr,ht⟩
 . omega
 . refine⟨b,g,cap,cur,rfl,hb,hg,ht,Ii,Jq,Jr,hB,fun k=>(hM k).trans ?_⟩
   simp only[Ao.ownBlock,Option.some.injEq];exact⟨fun h=>h.imp id Eq.symm,fun h=>h.imp id Eq.symm⟩
theorem RSp.stored{b g cap:Nat}{cur':Array Ao}(hb:w.heap[b]? =U (Am #[J Z n,Ak (U ⟨g,0,I⟩) O.length cap] 148 (0,0))){cur:Array Ao}(mc:w.heap[g]? =U (Am cur 200 (0,0)))(Ii:O.length<=cap)(Jq:cap<=maxLen)(hB:OwB O)(hM:∀ k,M k ↔ k=b\/k=g){w':r}(hw:Wrote w w' g)(hg:w'.heap[g]? =U (Am cur' 200 (0,0)))(hs:cur'.size=cap*2)
 {k:Nat} {i j:Int} (ht:cur'.toList.take (O.length*2)=Fy (O.set k (i,j))) (hij:(0<=i/\i<=65535)/\(0<=j/\j<=65535)):RSp w' M (Al (U ⟨b,0,I⟩)) n (O.set k (i,j))/\Chg M M w w':=by
 have hne:b≠g:=fun e=>by
  rw[e,mc] at hb
  injection hb with hb
  injection hb with _ hb _
  exact absurd hb (by decide)
 refine⟨⟨b,Ak (U ⟨g,0,I⟩) O.length cap,rfl,(hw.2.2.2.2 b hne).trans hb,⟨?_,?_⟩,?_⟩,⟨hw.1,hw.2.1,hw.2.2.1,by rw[hw.2.2.2.1];exact At _,fun x hx hn=>⟨hw.2.2.2.2 x fun e=>hn ((hM x).2 (AW e)),hn⟩⟩⟩
 . intro x
   rw[An,List.getElem?_set];by_cases e:k=x
   . rw[Au e]
     split
     . exact hij
     . exact⟨by decide,by decide⟩
   . rw[Ax e,<- An]
     exact hB x
 . rw[AF]
   exact⟨by rw[DF,AF],AW ⟨g,cap,cur',rfl,AT _,hg,Ii,Jq,hs,ht⟩⟩
 . intro x
   rw[hM x];simp only[Ao.ownBlock,Option.some.injEq];exact⟨fun h=>h.imp id Eq.symm,fun h=>h.imp id Eq.symm⟩
end
end
section
open Go.RowKit BM
def Cy(N:List (List Int))(m:Nat):Int:=(N.getD m []).getD 0 0
def MF(k:Int):List Int:=[k,0,0,0,0,0,0,0,0,0,0,0,0,0]
def B6(x F:List Int)(i:Nat):Int:=if i<10 then num x (3+i) else if i=138 then num x 13 else num F (i-10)
def Jt(i:Nat):Int:=if i=138 then 65535 else (i:Int)
def OwAt(O:List (Int × Int))(kk:Nat)(v:Int)(o:Int × Int):Prop:=(0<v/\v<64*(kk:Int))/\CR v=Ay/\O.getD v.toNat (0,0)=o
structure Fils (Ex:Nat->Nat->Prop) (G:List (List Int)) (S:List Int) (N:List (List Int)) (O:List (Int × Int)) (kk:Nat) (F:Nat->List Int):Prop where
 fl:∀ n,(F n).length=128/\FT (F n)=AE
 m0:∀ n,1<=n->n<48->num (N.getD n []) 13=0->F n=Aw 128 0
 m1:∀ n,1<=n->n<48->num (N.getD n []) 13≠0->G.getD (num (N.getD n []) 13).toNat []=FR (F n)
 ow:∀ n i,1<=n->n<48->i<139->¬ Ex n i->B6 (N.getD n []) (F n) i≠0->OwAt O kk (B6 (N.getD n []) (F n) i) ((n:Int),Jt i)
 tb:∀ t,t<6->O.getD (CW S t) (0,0)=(65534,(t:Int))
def EZ:Nat->Nat->Prop:=fun _ _=>False
section
variable {Ex:Nat->Nat->Prop}{G:List (List Int)}{S:List Int}{N:List (List Int)}{O:List (Int × Int)}{kk:Nat}{F:Nat->List Int}
theorem Fils.map(h:Fils Ex G S N O kk F){n:Nat}(h1:1<=n)(BG:n<48)(hE:¬ Ex n 138)(hm:num (N.getD n []) 13≠0):OwAt O kk (num (N.getD n []) 13) ((n:Int),65535):=h.ow n 138 h1 BG (by decide) hE hm
theorem Ea{N:List (List Int)}{n:Nat}(hn:n<N.length)(y:List Int)(m:Nat):(N.set n y).getD m []=if m=n then y else N.getD m []:=getD_set _ _ _ _ _ hn
end
def Fz(M:Nat->Option (List Int))(i:Nat):List Int:=(M i).getD z256
def EP(M:Nat->Option (List Int))(i:Nat)(l:List Int):Nat->Option (List Int):=fun j=>if j=i then U l else M j
def wr1(M:Nat->Option (List Int))(a:Nat)(v:Int):Nat->Option (List Int):=EP M (a / 256) ((Fz M (a / 256)).set (a%256) v)
def wrL:(Nat->Option (List Int))->Nat->List Int->(Nat->Option (List Int))
 |M,_,[]=>M
 |M,a,v :: l=>wrL (wr1 M a v) (a+1) l
def fp(M:Nat->Option (List Int))(j:Nat):Int:=(Fz M (j / 256)).getD (j%256) 0
def JI(M:Nat->Option (List Int))(a n:Nat):List Int:=(Bu n).map fun i=>fp M (a+i)
structure OkB (M:Nat->Option (List Int)):Prop where
 len:∀ i l,M i=U l->l.length=256
 byt:∀ i l,M i=U l->Fv l
theorem O7:z256.length=256:=A3
theorem QG:Fv z256:=C4 256
section
variable {M:Nat->Option (List Int)}
theorem OkB.blk(h:OkB M)(i:Nat):(Fz M i).length=256/\Fv (Fz M i):=by
 unfold Fz;cases e:M i
 . exact⟨O7,QG⟩
 . exact⟨h.len i _ e,h.byt i _ e⟩
theorem OkB.upd(h:OkB M)(i:Nat){l:List Int}(hl:l.length=256)(hb:Fv l):OkB (EP M i l):=by
 constructor
 . intro j m e
   unfold EP at e;split at e
   . cases e;exact hl
   . exact h.len j m e
 . intro j m e
   unfold EP at e;split at e
   . cases e;exact hb
   . exact h.byt j m e
theorem ax{l:List Int}(h:Fv l)(i:Nat){v:Int}(hv:0<=v/\v<=255):Fv (l.set i v):=CH fun x hx=>by
 rcases D8 hx with h1|h1
 . exact C3 h x h1
 . rw[h1];exact hv
theorem OkB.wr1(h:OkB M)(a:Nat){v:Int}(hv:0<=v/\v<=255):OkB (wr1 M a v):=h.upd _ (by rw[AF];exact(h.blk _).1) (ax (h.blk _).2 _ hv)
theorem IX{v:Int}{l:List Int}(h:Fv (v :: l)):(0<=v/\v<=255)/\Fv l:=⟨C3 h v Cj,CH fun x hx=>C3 h x (By _ hx)⟩
theorem TC(M:Nat->Option (List Int))(i j:Nat)(l:List Int):Fz (EP M i l) j=if j=i then l else Fz M j:=by
 unfold Fz EP;by_cases e:j=i
 . rw[Au e,Au e];rfl
 . rw[Ax e,Ax e]
theorem nT(h:OkB M)(a:Nat)(v:Int)(j:Nat):fp (Go.Proofs.YtfpdajplfmakhaaGreatDoor.wr1 M a v) j=if j=a then v else fp M j:=by
 unfold fp Go.Proofs.YtfpdajplfmakhaaGreatDoor.wr1;rw[TC];have hl:=(h.blk (a / 256)).1;by_cases e:j=a
 . rw[Au e,e,Au rfl,getD_set _ _ _ _ _ (by omega),Au rfl]
 . rw[Ax e]
   by_cases e2:j / 256=a / 256
   . rw[Au e2,getD_set _ _ _ _ _ (by omega),Ax (by omega),e2]
   . rw[Ax e2]
theorem Z9:∀ (l:List Int) (M:Nat->Option (List Int)) (a:Nat),OkB M->Fv l->∀ j,fp (wrL M a l) j=if a<=j/\j<a+l.length then l.getD (j-a) 0 else fp M j
 |[],M,a,_,_,j=>by rw[Ax (by simp)];rfl
 |v :: l,M,a,hk,hb,j=>by
  show fp (wrL (Go.Proofs.YtfpdajplfmakhaaGreatDoor.wr1 M a v) (a+1) l) j=_
  rw[Z9 l _ (a+1) (hk.wr1 a (IX hb).1) (IX hb).2,nT hk,Bm];by_cases e:j=a
  . subst e
    rw[Ax (by omega),Au rfl,Au (by omega),Nat.sub_self];rfl
  . by_cases c:a+1<=j/\j<a+1+l.length
    . rw[Au c,Au (by omega),show j-a=j-(a+1)+1 by omega];rfl
    . rw[Ax c,Ax e,Ax (by omega)]
theorem FI(M:Nat->Option (List Int))(a n:Nat):(JI M a n).length=n:=by unfold JI;rw[Ba,Dp]
theorem OS(M:Nat->Option (List Int))(a:Nat){n i:Nat}(h:i<n):(JI M a n).getD i 0=fp M (a+i):=by
 unfold JI;rw[An,DR,List.getElem?_range h];rfl
theorem UJ(M:Nat->Option (List Int))(a n m:Nat):JI M a (n+m)=JI M a n ++ JI M (a+n) m:=by
 unfold JI;rw[List.range_add,Cp,List.map_map];congr 1;apply Ck;intro i _;show fp M (a+(n+i))=fp M (a+n+i)
 rw[Dt]
theorem Sw(h:OkB M){a i o n:Nat}(ha:a=256*i+o)(ho:o+n<=256):JI M a n=((Fz M i).drop o).take n:=by
 have hl:=(h.blk i).1;apply Bg
 . rw[FI,AJ,Bn];omega
 . intro k h1 h2
   rw[FI] at h1;have e1:=OS M a h1;rw[An,AL (by rw[FI];exact h1)] at e1;have e2:(JI M a n)[k]'(by rw[FI];exact h1)=fp M (a+k):=e1;rw[e2,Ut,List.getElem_drop];unfold fp;rw[show(a+k) / 256=i by omega,show(a+k)%256=o+k by omega,An,AL (by omega)];rfl
end
end
section
open Go.RowKit
section
variable {P:Program}{ops:Array BE}{Q:Exit->Act->r->Prop}{md:Region.Mode}{S:r->Prop}{m:Nat}
def rT(m:Nat)(S:r->Prop)(L:Array Bool)(w:r):Prop:=L.getD m AE=Ay->S w
def GE(P:Program)(md:Region.Mode)(ops:Array BE)(Q:Exit->Act->r->Prop)(S:r->Prop)(m:Nat):Nat->Array Bool->Act->r->Prop
 |0,L,a,w=>Region.ready md ops L=[]/\Q .normal a w
 |n+1,L,a,w=>(Region.ready md ops L=[]->Q .normal a w)/\∀ i∈Region.ready md ops L,wpOp P ops Q i (fun a' w'=>rT m S (L.setIfInBounds i AE) w'/\GE P md ops Q S m n (L.setIfInBounds i AE) a' w') a w
theorem JN:∀ (n:Nat) (L:Array Bool) (a:Act) (w:r),GE P md ops Q S m n L a w->wpAny P md ops Q n L a w
 |0,_,_,_,h=>h
 |n+1,_,_,_,h=>⟨h.1,fun i hi=>wpOp_mono (fun _ _ k=>JN n _ _ _ k.2) (h.2 i hi)⟩
theorem jz{L:Array Bool}{i:Nat}(h:i∈Region.ready md ops L):L.getD i AE=Ay/\L.getD i Ay=Ay:=by
 have h0:=(mem_ready.1 h).1;refine⟨h0,?_⟩;rcases Nat.lt_or_ge i L.size with hl|hl
 . simp[hl] at h0 |-;exact h0
 . simp[Array.getElem?_eq_none hl] at h0
theorem Qi{i:Nat}{oi om:BE}{v:Ao}(hi:ops[i]? =U oi)(hm:ops[m]? =U om)(uS:∃ e∈om.after,Region.binds md e=AE/\e.on=i)
 (sC:∀ (j:Nat) (o:BE) cs b,ops[j]? =U o->o.op≠.select cs b) (hQ:∀ c a w,Q (.panic c) (a.put oi.dst v) w->Q (.panic c) a w):
 ∀ (n:Nat) (L:Array Bool) (a:Act) (w:r),(∀ j oj,ops[j]? =U oj->j≠i->L.getD j AE=Ay->(∀ e∈oj.after,Region.binds md e=AE->e.on≠i)->oi.apart ops oj=AE)->
   i∈Region.ready md ops L->L.getD m AE=Ay->YieldsIf P ops S oi v a->S w->
   GE P md ops Q S m n (L.setIfInBounds i AE) (a.put oi.dst v) w->GE P md ops Q S m (n+1) L a w
 |n,L,a,w,hfree,hr,hLm,hy,hS,H=>by
  refine⟨fun h=>(by rw[h] at hr;cases hr),fun j hj=>?_⟩;by_cases gP:j=i
  . subst gP
    exact hy.wpOp hi hS ⟨fun _=>hS,H⟩
  . obtain⟨uT,oj,lS,hall⟩:=mem_ready.1 hj
    have hun:=(jz hr).2;have CU:∀ e∈oj.after,Region.binds md e=AE->e.on≠i:=fun e he hb Rq=>by
     have h1:=hall e he hb;rw[Rq,hun] at h1;cases h1
    have hjm:j≠m:=fun e=>by
     subst e;obtain⟨e,he,hb,hei⟩:=uS;rw[hm] at lS;obtain rfl:=A0 lS;exact CU e he hb hei
    cases n with
    |zero=>
     have h1:=ready_mono hj gP;rw[H.1] at h1;cases h1
    |succ n=>
     have h2:=wpOp_putIf lS (hfree j oj lS gP uT CU) (fun cs b=>sC i oi cs b hi) (fun cs b=>sC j oj cs b lS) hQ hy (H.2 j (ready_mono hj gP));refine wpOp_mono (fun a' w' h3=>?_) h2;obtain⟨hy',hT,hA⟩:=h3;have him:i≠m:=fun e=>by
      subst e;obtain⟨e,he,hb,hei⟩:=uS;obtain⟨_,o,ho,lN⟩:=mem_ready.1 hr;rw[hm] at ho;obtain rfl:=A0 ho;have h1:=lN e he hb;rw[hei,hun] at h1;cases h1
     have uU:(L.setIfInBounds j AE).getD m AE=Ay:=(by rw[getD_set_ne AE hjm];exact hLm);rw[Array.setIfInBounds_comm _ _ (CT gP)] at hT hA;have hS':S w':=hT (by rw[getD_set_ne AE him];exact uU);refine⟨fun _=>hS',Qi hi hm uS sC hQ n _ a' w' (fun k ok hk hki hku hkn=>?_) (ready_mono hr (CT gP)) uU hy' hS' hA⟩;refine hfree k ok hk hki ?_ hkn;by_cases hjk:j=k
     . subst hjk;exact uT
     . rw[getD_set_ne AE hjk] at hku;exact hku
theorem NB{i:Nat}{oi om:BE}{v:Ao}{n:Nat}{L:Array Bool}{a:Act}{w:r}(hi:ops[i]? =U oi)(hm:ops[m]? =U om)(uS:om.after.any (fun e=>Region.binds md e && e.on==i)=AE)
 (hs:Region.noSelect ops=AE) (hf:Region.free md ops L i=AE) (hr:(Region.ready md ops L).contains i=AE) (hLm:L.getD m AE=Ay)
 (hQ:∀ c a w,Q (.panic c) (a.put oi.dst v) w->Q (.panic c) a w) (hy:YieldsIf P ops S oi v a) (hS:S w)
 (h:GE P md ops Q S m n (L.setIfInBounds i AE) (a.put oi.dst v) w):GE P md ops Q S m (n+1) L a w:=
 Qi hi hm (by
  obtain⟨e,he,hb⟩:=Array.any_eq_true'.1 uS;simp only[AQ,Da] at hb;exact⟨e,he,hb.1,hb.2⟩) (Region.noSelect_spec hs) hQ n L a w (Region.free_spec hi hf) (by simpa using hr) hLm hy hS h
def TillReady(P:Program)(md:Region.Mode)(ops:Array BE)(Q:Exit->Act->r->Prop)(S:r->Prop)(m n:Nat)(L:Array Bool)(a:Act)(w:r)(rs:List Nat):Prop:=
 ∀ i∈rs,wpOp P ops Q i (fun a' w'=>rT m S (L.setIfInBounds i AE) w'/\GE P md ops Q S m n (L.setIfInBounds i AE) a' w') a w
theorem TillReady.nil{n:Nat}{L:Array Bool}{a:Act}{w:r}:TillReady P md ops Q S m n L a w []:=fun _ h=>by cases h
theorem TillReady.cons{n:Nat}{L:Array Bool}{a:Act}{w:r}{i:Nat}{o:BE}{rs:List Nat}(ho:ops[i]? =U o)
 (h:∀ K:Act->r->Prop,Hid (∀ a w,rT m S (L.setIfInBounds i AE) w->GE P md ops Q S m n (L.setIfInBounds i AE) a w->K a w)->if Region.wanted o (yielded ops a.tmps)=AE then BE.wp P o a w K Q else K (a.put o.dst undef) w)
 (hs:TillReady P md ops Q S m n L a w rs):TillReady P md ops Q S m n L a w (i :: rs):=fun j hj=>by
 rcases Ew.1 hj with rfl|hj
 . exact wpOp_step ho (fun K hK=>h K (fun a w hT hA=>hK a w ⟨hT,hA⟩))
 . exact hs j hj
theorem EI{rs:List Nat}{n:Nat}{L:Array Bool}{a:Act}{w:r}(hr:Region.ready md ops L=rs)(hne:rs≠[])(h:TillReady P md ops Q S m n L a w rs):GE P md ops Q S m (n+1) L a w:=
 ⟨fun h0=>absurd (hr ▸ h0) hne,hr ▸ h⟩
theorem RK{L:Array Bool}{a:Act}{w:r}(hr:Region.ready md ops L=[])(h:Q .normal a w):∀ n,GE P md ops Q S m n L a w
 |0=>⟨hr,h⟩
 |_+1=>⟨fun _=>h,by rw[hr];simp⟩
end
def Gr(k:Nat)(j:Nat):Int × Int:=if CR (j:Int)=AE then (65535,0) else if 43<=j/\j<49/\j<k then (65534,(j:Int)-43) else (0,0)
def FF(k L:Nat):List (Int × Int):=(Bu L).map (Gr k)
def Gv(K:Nat):List (Int × Int):=FF (64*K) (64*K)
theorem CL(k L:Nat):(FF k L).length=L:=by simp[FF]
theorem FX(k L j:Nat)(h:j<L):(FF k L).getD j (0,0)=Gr k j:=by simp[FF,h]
theorem YT(g:Nat):FF 0 (64*(g+1))=FF 0 (64*g) ++ FP (g:Int) 64:=by
 apply Bg (by simp[FF,ID];omega);intro i h1 h2;rw[CL] at h1;rw[List.getElem_append];split
 . simp[FF]
 . next h=>
   rw[CL] at h;simp only[FF,FP,Co,Cc,Ba,Dp];unfold Gr LW;have e:64*(g:Int)+((i-64*g:Nat):Int)=(i:Int):=(by omega);rw[e];cases CR (i:Int) <;> simp
theorem Mk{j:Nat}:(j<43->CR (j:Int)=AE)/\(43<=j->j<49->CR (j:Int)=Ay):=by
 unfold CR;exact⟨fun h=>Az (by omega),fun h1 h2=>AB (by omega)⟩
theorem kT(k L:Nat)(h1:43<=k)(h2:k<49):(FF k L).set k (65534,(k:Int)-43)=FF (k+1) L:=by
 apply Bg (by simp[FF]);intro i h3 h4;simp only[FF,Ef,Co,Cc];unfold Gr;have hf:=(Mk (j:=k)).2 h1 h2;by_cases e:k=i
 . subst e;rw[Au rfl,hf];simp;omega
 . rw[Ax e]
   by_cases hi:CR (i:Int)=AE
   . rw[Au hi,Au hi]
   . rw[Ax hi,Ax hi]
     by_cases hc:43<=i/\i<49/\i<k
     . rw[Au hc,Au (by omega)]
     . rw[Ax hc,Ax (by omega)]
theorem Sb(k L:Nat)(h:k<43\/49<=k):FF k L=FF (k+1) L:=by
 unfold FF;apply Ck;intro i _;unfold Gr;by_cases hi:CR (i:Int)=AE
 . rw[Au hi,Au hi]
 . rw[Ax hi,Ax hi]
   by_cases hc:43<=i/\i<49/\i<k
   . rw[Au hc,Au (by omega)]
   . rw[Ax hc,Ax (by omega)]
theorem TK(k j:Nat):(0<=(Gr k j).1/\(Gr k j).1<=65535)/\(0<=(Gr k j).2/\(Gr k j).2<=65535):=by
 unfold Gr;split
 . decide
 . split
   . next h=>simp only;omega
   . decide
theorem aA{K:Nat}(h1:1<=K)(h2:K<=12):OOk (Gv K) K:=by
 refine⟨CL _ _,h1,h2,JS fun j hj=>?_,fun j hj=>?_,fun j hj=>?_⟩
 . unfold Gv at hj |-
   rw[CL] at hj;rw[FX _ _ _ hj];exact TK _ _
 . unfold NJ Gv
   rw[FX _ _ _ hj];unfold Gr;split
   . decide
   . split
     . next h=>
       obtain⟨m,hm⟩:∃ m:Nat,m=j-43:=⟨_,rfl⟩;have e:(j:Int)-43=m:=(by omega);have hm6:m<6:=(by omega);simp only[e];clear hm e h
       revert m;decide
     . decide
 . unfold Gv
   rw[FX _ _ _ hj];unfold Gr;split
   . next h=>rw[h];rfl
   . next h=>
     rw[Bool.not_eq_true] at h;rw[h];split <;> rfl
theorem OF{ops:Array BE}{o:BE}{a:Act}{w:r}{K:Act->r->Prop}{Q:Exit->Act->r->Prop}{E:Prop}(Du:o.guard=I)(s x:Operand)
 (ho:o.op=.call { callee:=.builtin .append,args:=#[s,x],argTypes:=#[146,146] }) (hty:o.type=146)
 (B:Nat) (v:Ao) (O:List (Int × Int)) (hs:a.eval s=v) (hown:OwR w B v O) (hO:O.length<=1000000) (u:Ao) (D:List (Int × Int)) (hx:a.eval x=u) (hD:OwSl w u D) (hDl:0<D.length/\D.length<=1000) (hB:B<=w.heap.size)
 (h:∀ v' w',OwR w' B v' (O ++ D)->Ap B w w'->K (a.put o.dst v') w'):if Region.wanted o (yielded ops a.tmps)=AE then BE.wp Ae o a w K Q else E:=by
 obtain⟨t,h2,h3,h4,h5⟩:=Bf T9;obtain⟨b,off,cap,rfl,hb,hc⟩:=hD.at hDl.1;refine step_append_lies w Du s x 146 ho B 200 t _ 2 4 Tryz.underlying146 h2 h3 h4 h5 rfl (by decide) v O.length (Fy O) hs hown.2 ⟨b,off,I⟩ D.length cap (Fy D) hx (DF D) ?_ ?_ hDl.1 (by simp only[maxLen];omega) (by omega) hB w.heap.size rfl ?_
 . intro j u hj
   have MV:j<D.length*2:=(by rw[<- DF];exact(Bb.1 hj).1);obtain⟨i,hi⟩:=nm (j / 2);obtain⟨g1,g2⟩:=My D i (by omega);obtain⟨k1,k2⟩:=hc i (by omega);rw[BY];rcases Fu j with e|e
   . obtain rfl:j=i*2:=by omega
     rw[g1] at hj;rw[k1,<- hj]
   . obtain rfl:j=i*2+1:=by omega
     rw[g2] at hj;rw[<- Dt,k2,<- hj]
 . intro u hu
   obtain⟨j,hj⟩:=List.getElem?_of_mem hu;have MV:j<D.length*2:=(by rw[<- DF];exact(Bb.1 hj).1);obtain⟨i,hi⟩:=nm (j / 2);obtain⟨g1,g2⟩:=My D i (by omega);rcases Fu j with e|e
   . obtain rfl:j=i*2:=by omega
     rw[g1] at hj;obtain rfl:=A0 hj;rfl
   . obtain rfl:j=i*2+1:=by omega
     rw[g2] at hj;obtain rfl:=A0 hj;rfl
 . intro g cap' w' uV hgrow _ _
   refine h _ w' ⟨JS fun m hm=>?_,?_⟩ ((AC _ _).grown hgrow hB fun k hk=>(BO hown.2 k hk).1)
   . by_cases e:m<O.length
     . have:=hown.1 m
       rw[An,BH e,<- An];exact this
     . have:=hD.1 (m-O.length)
       rw[An,BR (by omega),<- An];exact this
   . rw[AD,N4];exact uV
theorem N8(k:Nat)(h1:1<=k)(h2:k<=12)(w:r):Av Ae 67 #[J Z (64*(k:Int))] w fun e w'=>e=Aj (J Z k)/\w=w':=by
 have:=Wx (64*(k:Int)) (by omega) w;rw[show MR (64*(k:Int))=k by unfold MR;rw[Au (SS k h1 h2)];omega] at this;exact this
def NSp(w:r)(b:Nat)(n:Int)(O:List (Int × Int)):Prop:=∃ v,w.heap[b]? =U (Am #[J Z n,v] 148 (0,0))/\OwR w (b+1) v O
theorem NSp.rsp{w:r}{b:Nat}{n:Int}{O:List (Int × Int)}(h:NSp w b n O):∃ M,RSp w M (Al (U ⟨b,0,I⟩)) n O/\∀ x,M x->b<=x:=by
 obtain⟨v,hb,ho⟩:=h;refine⟨fun x=>x=b\/v.ownBlock=U x,⟨b,v,rfl,hb,ho.more (AT _),fun k=>Iff.rfl⟩,fun x hx=>?_⟩;rcases hx with rfl|hx
 . exact At _
 . have:=(BO ho.2 x hx).1;omega
theorem cN{w:r}{b:Nat}{n:Int}{O:List (Int × Int)}{v v':Ao}(hd:w.heap[b]? =U (Am #[J Z n,v] 148 (0,0)))(ho:OwR w (b+1) v' O):
 NSp (w.setCell ⟨b,1,I⟩ v') b n O/\Ap b w (w.setCell ⟨b,1,I⟩ v'):=by
 have hw:=Wrote.setCell w b 1 v';refine⟨⟨v',A8 w b 1 _ _ _ hd,ho.1,Fs ho.2 fun g hg=>hw.2.2.2.2 g fun e=>?_⟩,hw.below (At _)⟩;have:=(BO ho.2 g hg).1;omega
theorem RSp.all{w:r}{M:Nat->Prop}{b:Nat}{n:Int}{O:List (Int × Int)}(h:RSp w M (Al (U ⟨b,0,I⟩)) n O)(h0:0<O.length):∃ g cap cur,w.heap[b]? =U (Am #[J Z n,Ak (U ⟨g,0,I⟩) O.length cap] 148 (0,0))/\w.heap[g]? =U (Am cur 200 (0,0))/\cur.toList.take (O.length*2)=Fy O/\O.length<=cap/\cap<=maxLen/\cur.size=cap*2/\(∀ k,M k ↔ k=b\/k=g)/\
 (∀ j,j<O.length->w.cell? ⟨g,j*2,I⟩=U (J .u16 (O.getD j (0,0)).1)/\w.cell? ⟨g,j*2+1,I⟩=U (J .u16 (O.getD j (0,0)).2)):=by
 obtain⟨bp,g,off,cap,e1,c0,c1,hc⟩:=h.cells h0;obtain⟨b',g',cap',cur,e2,hb,hg,ht,Ii,Jq,Jr,hB,hM⟩:=h.row h0;obtain rfl:b=b':=by injection e2 with e;injection e with e;injection e with e
 obtain rfl:b=bp:=by injection e1 with e;injection e with e;injection e with e
 have c1':w.cell? ⟨b,1,I⟩=U (Ak (U ⟨g',0,I⟩) O.length cap'):=by rw[Aq _ _ _ _ _ _ hb];rfl
 obtain⟨rfl,rfl,rfl⟩:g=g'/\off=0/\cap=cap':=by
  rw[c1'] at c1
  injection c1 with c1
  injection c1 with a1 _ a3
  injection a1 with a1
  injection a1 with a1 a2
  exact⟨a1.symm,a2.symm,a3.symm⟩
 refine⟨g,cap,cur,hb,hg,ht,Ii,Jq,Jr,hM,fun j hj=>?_⟩;have:=hc j hj
 rwa [Br] at this
def ma(k:Nat):Int:=if k<=43 then 0 else if k<49 then (k:Int)-43 else 6
theorem ru{k:Nat}(h:k<43):ma k=0/\ma (k+1)=0:=by unfold ma;rw[Au (by omega),Au (by omega)];exact⟨rfl,rfl⟩
theorem qU{k:Nat}(h:49<=k):ma k=6/\ma (k+1)=6:=by unfold ma;rw[Ax (by omega),Ax (by omega),Ax (by omega),Ax (by omega)];exact⟨rfl,rfl⟩
theorem nW{k:Nat}(h:43<=k)(h2:k<49):ma k=(k:Int)-43/\ma (k+1)=(k:Int)-43+1:=by
 unfold ma;refine⟨?_,?_⟩
 . by_cases e:k=43
   . subst e;rfl
   . rw[Ax (by omega),Au h2]
 . rw[Ax (by omega)]
   by_cases e:k=48
   . subst e;rfl
   . rw[Au (by omega)];omega
theorem c_{kk:Nat}(h1:1<=kk)(h2:kk<=12)(w:r):Av Ae 66 #[J Z (64*(kk:Int))] w fun e w'=>∃ p M,e=Aj p/\RSp w' M p (64*(kk:Int)) (Gv kk)/\(∀ x,M x->w.heap.size<=x)/\Ap w.heap.size w w':=by
 have KG:=wM (fun(W:r)=>N8 kk h1 h2 W);have hbx:=As w (Am #[J Z (64*(kk:Int)),Ak I 0 0] 148);have EN:=Ar w (Am #[J Z (64*(kk:Int)),Ak I 0 0] 148);go_enter Tryz.func66,Tryz.ntmps66;go_upto_region 2 with(fail)
 generalize w.alloc (Am #[J Z (64*(kk:Int)),Ak I 0 0] 148)=w1 at hbx EN |-
 obtain⟨b,hd⟩:=nm w.heap.size;rw[<- hd] at EN |-
 have HN0:Hid (NSp w1 b (64*(kk:Int)) (FF 0 (64*0))):=wM ⟨_,EN,aH w1 (b+1)⟩;have HBW:Hid (Ap b w w1):=wM (by rw[hd];exact hbx);have HBD:=wM hd;have HB0:Hid (Ap b w1 w1/\b<w1.heap.size):=wM ⟨AC _ _,(Ah.1 EN).1⟩;clear hbx EN hd;go_wp2_with (go_at_call 67;refine(KG.out _).mono ?_;rintro e w' ⟨rfl,rfl⟩)
 go_loopw [12] (fun i wr=>∃ g:Nat,g<=kk/\i=J Z g/\Hid (NSp wr b (64*(kk:Int)) (FF 0 (64*g)))/\Hid (Ap b w1 wr/\b<wr.heap.size)) (fun i _=>kk-(intOf i).toNat)
 case atStart=>exact⟨0,by omega,rfl,HN0,HB0⟩
 case round=>
  obtain⟨g,hg,rfl,HN,HB⟩:=hrel;clear HN0 HB0;by_cases hlt:g<kk
  . have eg:(g:Int)<12:=by omega
    have egK:(g:Int)<(kk:Int):=(by omega);obtain⟨v,hd,ho⟩:=HN.out;have c1:wr.drew.cell? ⟨b,1,I⟩=U v:=(by rw[Aq _ _ _ _ _ _ (show wr.drew.heap[b]? =_ from hd)];rfl);have KF:=wM (Ws (g:Int) (by omega) (by omega) wr.drew);have HD:=wM (show wr.drew.heap[b]? =U (Am #[J Z (64*(kk:Int)),v] 148 (0,0)) from hd);have HO:=wM (show OwR wr.drew (b+1) v (FF 0 (64*g)) from ho);have HBL:=wM (show Ap b w1 wr.drew/\b<wr.drew.heap.size from⟨HB.out.1.drew,HB.out.2⟩);have HTL:=wM (CL 0 (64*g));have HFR:=wM (YT g);clear hd ho;go_wp2;refine wp_region_any (by kernel_rfl) ?_
    (try simp only[Act.put,AV,List.set_cons_zero,List.set_cons_succ,List.getElem_toArray,List.getElem_cons_zero,List.getElem_cons_succ])
    refine wpAny_take (i:=0) (v:=(Al (U ⟨b,0,I⟩))) rfl (by kernel_rfl) (by kernel_rfl) (by kernel_rfl) (fun _ _ _ h=>h) (AU ⟨by rfl,?_⟩) ?_
    . intro W
      go_simp
    (try simp only[Act.put,AV,List.set_cons_zero,List.set_cons_succ,List.getElem_toArray,List.getElem_cons_zero])
    refine wpAny_take (i:=1) (v:=(Al (U ⟨b,0,I⟩))) rfl (by kernel_rfl) (by kernel_rfl) (by kernel_rfl) (fun _ _ _ h=>h) (AU ⟨by rfl,?_⟩) ?_
    . intro W
      go_simp
    (try simp only[Act.put,AV,List.set_cons_zero,List.set_cons_succ,List.getElem_toArray,List.getElem_cons_zero,List.getElem_cons_succ])
    refine wpAny_take (i:=2) (v:=(Al (U ⟨b,0,I⟩))) rfl (by kernel_rfl) (by kernel_rfl) (by kernel_rfl) (fun _ _ _ h=>h) (AU ⟨by rfl,?_⟩) ?_
    . intro W
      go_simp
    (try simp only[Act.put,AV,List.set_cons_zero,List.set_cons_succ,List.getElem_toArray,List.getElem_cons_zero,List.getElem_cons_succ])
    refine wpAny_take (i:=3) (v:=(Al (U ⟨b,1,I⟩))) rfl (by kernel_rfl) (by kernel_rfl) (by kernel_rfl) (fun _ _ _ h=>h) (AU ⟨by rfl,?_⟩) ?_
    . intro W
      go_simp
    (try simp only[Act.put,AV,List.set_cons_zero,List.set_cons_succ,List.getElem_toArray,List.getElem_cons_zero,List.getElem_cons_succ])
    refine wpAny_take (i:=5) (v:=(J Z g)) rfl (by kernel_rfl) (by kernel_rfl) (by kernel_rfl) (fun _ _ _ h=>h) (AU ⟨by rfl,?_⟩) ?_
    . intro W
      go_simp
    (try simp only[Act.put,AV,List.set_cons_zero,List.set_cons_succ,List.getElem_toArray,List.getElem_cons_zero,List.getElem_cons_succ])
    refine JN (S:=fun W=>W.cell? ⟨b,1,I⟩=U v) (m:=10) _ _ _ _ ?_;refine NB (i:=4) (v:=v) rfl rfl (by kernel_rfl) (by kernel_rfl) (by kernel_rfl) (by kernel_rfl) (by kernel_rfl) (fun _ _ _ h=>h) (AU ⟨by rfl,?_⟩) c1 ?_
    . intro W hS
      go_simp
    (try simp only[Act.put,AV,List.set_cons_zero,List.set_cons_succ,List.getElem_toArray,List.getElem_cons_zero,List.getElem_cons_succ])
    refine EI (rs:=[6]) (by kernel_rfl) (by simp) (TillReady.cons rfl (fun K hK=>?_) TillReady.nil)
    go_simp
    go_at_call 109
    refine KF.out.mono ?_;rintro e w3 ⟨u,rfl,hu,hb3⟩;have d3:=Bs HD.out hb3;have c3:w3.cell? ⟨b,1,I⟩=U v:=by rw[Aq _ _ _ _ _ _ d3];rfl
    have hw3:=AA HBL.out.2 hb3.size;refine hK.out _ _ (fun _=>c3) ?_;clear hK K
    (try simp only[Act.put,AV,List.set_cons_zero,List.set_cons_succ,List.getElem_toArray,List.getElem_cons_zero,List.getElem_cons_succ])
    refine EI (rs:=[7]) (by kernel_rfl) (by simp) (TillReady.cons rfl (fun K hK=>?_) TillReady.nil);refine OF (by rfl) (.tmp 19) (.tmp 21) (by rfl) (by rfl) (b+1) v (FF 0 (64*g)) (by rfl) (HO.out.below hb3) (by rw[HTL.out];omega) u (FP g 64) (by rfl) hu.sl (by rw[ID];decide) hw3 ?_;intro v' w4 ho4 hb4;obtain⟨a4,cap4,rfl⟩:=ho4.sl.shape;obtain⟨n4,hn4⟩:=nm ((FF 0 (64*g) ++ FP (g:Int) 64).length);rw[<- hn4] at ho4 |-
    clear hn4;have d4:=(hb4.block b (by omega)).trans d3;have c4:w4.cell? ⟨b,1,I⟩=U v:=(by rw[Aq _ _ _ _ _ _ d4];rfl);refine hK.out _ _ (fun _=>c4) ?_;clear hK K
    (try simp only[Act.put,AV,List.set_cons_zero,List.set_cons_succ,List.getElem_toArray,List.getElem_cons_zero,List.getElem_cons_succ])
    refine EI (rs:=[8]) (by kernel_rfl) (by simp) (TillReady.cons rfl (fun K hK=>?_) TillReady.nil)
    go_simp
    refine hK.out _ _ (fun _=>c4) ?_;clear hK K
    (try simp only[Act.put,AV,List.set_cons_zero,List.set_cons_succ,List.getElem_toArray,List.getElem_cons_zero,List.getElem_cons_succ])
    refine EI (rs:=[9]) (by kernel_rfl) (by simp) (TillReady.cons rfl (fun K hK=>?_) TillReady.nil)
    go_simp
    refine hK.out _ _ (fun _=>c4) ?_;clear hK K
    (try simp only[Act.put,AV,List.set_cons_zero,List.set_cons_succ,List.getElem_toArray,List.getElem_cons_zero,List.getElem_cons_succ])
    have hf:=frozen_of_row w4 b 1 _ _ d4;refine EI (rs:=[10]) (by kernel_rfl) (by simp) (TillReady.cons rfl (fun K hK=>?_) TillReady.nil)
    go_simp
    obtain⟨r1,r2⟩:=cN d4 ho4;have HN2:Hid (NSp (w4.setCell ⟨b,1,I⟩ (Ak a4 n4 cap4)) b (64*(kk:Int)) (FF 0 (64*(g+1)))):=wM (by rw[HFR.out];exact r1);have HB2:Hid (Ap b w1 (w4.setCell ⟨b,1,I⟩ (Ak a4 n4 cap4))/\b<(w4.setCell ⟨b,1,I⟩ (Ak a4 n4 cap4)).heap.size):=wM (by
     have hb04:=(HBL.out.1.trans (hb3.mono (Ct HBL.out.2))).trans (hb4.mono (Nat.le_succ b));have gG:=hb04.trans r2;refine⟨gG,AA ?_ r2.size⟩;have:=hb3.size;have:=hb4.size;have:=HBL.out.2;omega)
    clear r1 r2;generalize w4.setCell ⟨b,1,I⟩ (Ak a4 n4 cap4)=Y at HN2 HB2 |-
    refine hK.out _ _ (fun h=>by cases h) ?_;clear hK K
    (try simp only[Act.put,AV,List.set_cons_zero,List.set_cons_succ,List.getElem_toArray,List.getElem_cons_zero,List.getElem_cons_succ])
    clear hf c4 d4 hb4 ho4 hb3 c3 d3 hw3 hu;refine RK (by kernel_rfl) ?_ _;go_wp2;go_roundw
    case rel=>exact⟨g+1,by omega,by go_num,HN2,HB2⟩
    case measure=>simp[intOf];omega
  . obtain rfl:g=kk:=by omega
    obtain⟨M,hM,hMb⟩:=HN.out.rsp;have HMB:=wM hMb;obtain⟨L,hL⟩:=nm (64*g);have hL1:64<=L:=(by omega);have hL2:L<=768:=(by omega);rw[<- hL] at hM;have HL0:=wM hL;have HM0:Hid (RSp wr M (Al (U ⟨b,0,I⟩)) (64*(g:Int)) (FF 0 L)):=wM hM;have HB0:Hid (Ap b w1 wr):=wM HB.out.1;obtain⟨g0,cap0,cur0,hb0,_⟩:=hM.all (by rw[CL];omega);rw[CL] at hb0;have c1:wr.cell? ⟨b,1,I⟩=U (Ak (U ⟨g0,0,I⟩) L cap0):=(by rw[Aq _ _ _ _ _ _ hb0];rfl);clear hM hMb hb0 HB HN hL;go_wp2;clear c1;go_loopw [4,31] (fun at' i wr=>∃ k:Nat,k<=L/\i=J Z k/\at'=J Z (ma k)/\Hid (RSp wr M (Al (U ⟨b,0,I⟩)) (64*(g:Int)) (FF k L))/\Hid (Ap b w1 wr)) (fun _ i _=>L-(intOf i).toNat)
    case atStart=>exact⟨0,by omega,rfl,rfl,HM0,HB0⟩
    case round=>
     obtain⟨k,hk,rfl,rfl,HR,HBR⟩:=hrel;clear HM0 HB0;by_cases hkt:k<L
     . obtain⟨g1,cap1,cur1,hb1,hg1,sr,pq,pr,pu,SJ,hc1⟩:=HR.out.all (by rw[CL];omega)
       have hck:=(hc1 k (by rw[CL];omega)).1;rw[FX _ _ _ hkt] at hck;have ekt:(k:Int)<(L:Int):=(by omega);have c1:wr.cell? ⟨b,1,I⟩=U (Ak (U ⟨g1,0,I⟩) L cap1):=(by rw[CL] at hb1;rw[Aq _ _ _ _ _ _ hb1];rfl);by_cases h49:49<=k
       . obtain⟨a1,a2⟩:=qU h49
         have HR2:=HR.out;rw[Sb k L (AW h49)] at HR2;have HR3:=wM HR2;have HA2:=wM a2;rw[a1];clear hb1 hg1 sr pq pr pu SJ hc1 hck HR2 a1 a2 HR;go_wp2;go_roundw
         case rel=>exact⟨k+1,by omega,by go_num,by rw[HA2.out],HR3,HBR⟩
         case measure=>simp[intOf];omega
       . by_cases ZM:k<43
         . obtain⟨a1,a2⟩:=ru ZM
           have HR2:=HR.out;rw[Sb k L (AU ZM)] at HR2;have HR3:=wM HR2;have HA2:=wM a2;rw[a1];unfold Gr at hck;rw[(Mk (j:=k)).1 ZM] at hck;have hck':wr.cell? ⟨g1,k*2,I⟩=U (J .u16 65535):=hck;clear hb1 hg1 sr pq pr pu SJ hc1 hck HR2 a1 a2 HR;go_wp2;go_roundw
           case rel=>exact⟨k+1,by omega,by go_num,by rw[HA2.out],HR3,HBR⟩
           case measure=>simp[intOf];omega
         . obtain⟨a1,a2⟩:=nW (show 43<=k by omega) (show k<49 by omega)
           have HA2:=wM a2;rw[a1];obtain⟨t,ht⟩:∃ t:Nat,t=k-43:=⟨_,rfl⟩;have et:(k:Int)-43=(t:Int):=(by omega);have ht6:t<6:=(by omega);have ht6':(t:Int)<6:=(by omega);have htw:IntKind.u16.wrap (t:Int)=t:=(by rw[IntKind.wrap_u16];omega);unfold Gr at hck;rw[(Mk (j:=k)).2 (by omega) (by omega),Ax (by decide),Ax (by omega)] at hck;have hck':wr.cell? ⟨g1,k*2,I⟩=U (J .u16 0):=hck;have HFIN:=wM (fun(w':r) (cur':Array Ao) (hw:Wrote wr w' g1) (hg':w'.heap[g1]? =U (Am cur' 200 (0,0))) (hs:cur'.size=cur1.size) (ht':cur'.toList.take ((FF k L).length*2)=Fy ((FF k L).set k (65534,(t:Int))))=>RSp.stored hb1 hg1 pq pr (JS fun j hj=>by rw[CL] at hj;rw[FX _ _ _ hj];exact TK _ _) SJ hw hg' (hs.trans pu) ht' ⟨⟨by decide,by decide⟩,⟨by omega,by omega⟩⟩);have HST:Hid ((FF k L).set k (65534,(t:Int))=FF (k+1) L):=wM (by rw[<- et];exact kT k L (by omega) (by omega));have HG:=wM hg1;have HT:=wM sr;have HS:Hid ((FF k L).length*2<=cur1.size):=wM (by omega);have HK:Hid (k<(FF k L).length):=wM (by rw[CL];exact hkt);have HGB:Hid (b<=g1):=wM (HMB.out g1 ((SJ g1).2 (AW rfl)));rw[et] at HA2 |-
           clear hb1 hg1 sr pq pr pu SJ hc1 hck a1 a2 HR ht et;go_wp2_with (with_reducible refine IQ rfl (.tmp 55) (.tmp 54) rfl g1 k (FF k L) cur1 65534 t rfl rfl HG.out HT.out HS.out HK.out ?_;intro w4 cur4 hw4 hg4 hs4 uW;have HE:=wM (HFIN.out w4 cur4 hw4 hg4 hs4 uW);have HBE:=wM (HBR.out.trans (hw4.below HGB.out));clear hw4 hg4 hs4 uW)
           go_roundw
           case rel=>exact⟨k+1,by omega,by go_num,by rw[HA2.out],wM (by rw[<- HST.out];exact HE.out.1),HBE⟩
           case measure=>simp[intOf];omega
     . obtain rfl:k=L:=by omega
       have HR2:=HR.out;go_wp2;go_ret;refine⟨_,M,rfl,?_,fun x hx=>by have:=HMB.out x hx;rw[HBD.out] at this;exact this,?_⟩
       . unfold Gv;rw[<- HL0.out];exact HR2
       . have:=HBW.out.trans HBR.out
         rw[HBD.out] at this;exact this
theorem kv{L:List Int}(j:Nat)(hj:j<12)(h1:j≠1)(x:Int)(hx:x=num L j)(hx0:0<=x/\x<65536)(W:r)(u:Ao)(hs:BSl W u (GU L j)):
 Av Ae 112 #[u,J .u64 x,J Z 2] W (JQ W (GU L (j+1))):=kx j hj x hx hx0 2 (Ax h1).symm W u hs
theorem fU{L:List Int}(x:Int)(hx:x=num L 1)(h0:0<=x/\x<256):GU L 1 ++ [x]=GU L 2:=by
 rw[show GU L 2=GU L 1 ++ BT (num L 1) (Ih 1) from rfl,<- hx,show Ih 1=1 from rfl,Hf,Hh];simp;omega
theorem lz(b st tg cu io ba t0 t1 t2 t3 t4 t5:Int)(L:List Int)(L2:L=[b,st,tg,cu,io,ba,t0,t1,t2,t3,t4,t5])(hf:DP L=AE)(w:r)
 (hF:∀ w,Av Ae 117 #[BN #[J Z b,J Z st,J Z tg,J Z cu,J Z io,J Z ba,J Z t0,J Z t1,J Z t2,J Z t3,J Z t4,J Z t5]] w fun e w'=>e=Aj (AP AE)/\Ap w.heap.size w w'):
 Av Ae 75 #[BN #[J Z b,J Z st,J Z tg,J Z cu,J Z io,J Z ba,J Z t0,J Z t1,J Z t2,J Z t3,J Z t4,J Z t5]] w fun e w'=>∃ v,e=Aj (AH #[v,J Z 0])/\OB w' w.heap.size v (Gj L)/\Ap w.heap.size w w':=by
 have hob:=As w (Ca L 156);have hh:=Ar w (Ca L 156);obtain⟨W1,hW1⟩:=nm (w.alloc (Ca L 156));rw[<- hW1] at hob hh;have Ko:w.alloc (Am #[J Z b,J Z st,J Z tg,J Z cu,J Z io,J Z ba,J Z t0,J Z t1,J Z t2,J Z t3,J Z t4,J Z t5] 156)=W1:=by rw[hW1,L2];rfl
 have hlen:L.length=12:=by rw[L2];rfl
 have Ed:w.heap.size<W1.heap.size:=by rw[hW1];simp
 have kc:=fun(w:r) (C:Array Ao) (n c:Nat)=>E4 (P:=Ae) w 77 5 C n c Tryz.underlying77 Tryz.underlying5
 have e0:b=num L 0:=by rw[L2];rfl
 have e1:st=num L 1:=by rw[L2];rfl
 have e2:tg=num L 2:=by rw[L2];rfl
 have e3:cu=num L 3:=by rw[L2];rfl
 have e4:io=num L 4:=by rw[L2];rfl
 have e5:ba=num L 5:=by rw[L2];rfl
 have f0:=O5 hf 0 (by decide);have f1:0<=num L 1/\num L 1<256:=Tt hf 1 (by decide);rw[<- e0] at f0;rw[<- e1] at f1;have H2:=wM Ko;have HH:=wM hh;have HLE:=wM hlen;have HFR:=wM hf;have K0:=wM hF;have E0:=wM e0;have E1:=wM e1;have E25:=wM (And.intro e2 (And.intro e3 (And.intro e4 e5)));have hc:=fun(W:r) (h:W.heap[w.heap.size]? =U (Ca L 156))=>by rw[L2] at h;exact IM h
 have HCC:=wM hc;clear hF hh hW1 Ko L2 hlen hf e0 e1 e2 e3 e4 e5 hc;go_enter Tryz.func75,Tryz.ntmps75
 go_wp2_with (first
  |(go_at_call 117;rw[H2.out];refine(K0.out _).mono ?_;rintro e w2 ⟨rfl,hb2⟩;have hbe:Ap w.heap.size w w2:=hob.trans (hb2.mono hob.size)
    have hz2:w.heap.size<w2.heap.size:=AA Ed hb2.size;have hr2:w2.heap[w.heap.size]? =U (Ca L 156):=(hb2.block _ Ed).trans HH.out;have hc2:=HCC.out _ hr2)
  |(go_at_call 112
    have hbm:=Sy w2;have hb3:=As w2 (Am #[J .u8 97,J .u8 115,J .u8 104,J .u8 108,J .u8 97,J .u8 114,J .u8 32,J .u8 49] 5 (8,9));generalize w2.alloc (Am #[J .u8 97,J .u8 115,J .u8 104,J .u8 108,J .u8 97,J .u8 114,J .u8 32,J .u8 49] 5 (8,9))=w3 at hbm hb3 |-
    refine(kv 0 (by decide) (by decide) b E0.out f0 _ _ hbm).mono ?_;rintro e w4 ⟨v4,rfl,hob4,hb4⟩;have hb24:Ap w2.heap.size w2 w4:=hb3.trans (hb4.mono hb3.size);have hr4:w4.heap[w.heap.size]? =U (Ca L 156):=(hb24.block _ hz2).trans hr2;have hc4:=HCC.out _ hr4)
  |(at_builtin
    refine FO w4 st rfl (.tmp 17) (.tmp 21) rfl w3.heap.size _ (GU L 1) rfl hob4 ⟨f1.1,by omega⟩ rfl (by rw[EA];decide) hb4.size ?_;intro v5 w5 hob5 hb5;rw[fU st E1.out f1] at hob5;have hb45:Ap w2.heap.size w4 w5:=hb5.mono hb3.size;have hb25:Ap w2.heap.size w2 w5:=hb24.trans hb45;have Db:w5.heap[w.heap.size]? =U (Ca L 156):=(hb25.block _ hz2).trans hr2;have OQ:=HCC.out _ Db))
 have hb6:=As w5 (Am #[J Z tg,J Z cu,J Z io,J Z ba] 3);have uX:=Ar w5 (Am #[J Z tg,J Z cu,J Z io,J Z ba] 3);generalize w5.alloc (Am #[J Z tg,J Z cu,J Z io,J Z ba] 3)=w6 at hb6 uX |-
 obtain⟨gi,hgi⟩:=nm w5.heap.size;rw[<- hgi] at uX |-
 have ZP:w.heap.size<w5.heap.size:=AA hz2 hb25.size;have hr6:w6.heap[w.heap.size]? =U (Ca L 156):=(hb6.block _ ZP).trans Db;have MX:gi<w6.heap.size:=(Ah.1 uX).1;have Up:∀ j,j<4->w6.cell? ⟨gi,j,I⟩=U (J Z (num L (2+j))):=fun j hj=>by
  have:=E25.out;rw[Aq _ _ _ _ _ _ uX];have h4:j=0\/j=1\/j=2\/j=3:=by omega
  rcases h4 with rfl|rfl|rfl|rfl
  . rw[<- this.1];rfl
  . rw[<- this.2.1];rfl
  . rw[<- this.2.2.1];rfl
  . rw[<- this.2.2.2];rfl
 have MW:=fun k hk=>Hv hr6 k hk
 rw[HLE.out] at MW;have HCI:=wM Up;have HCX:=wM MW;have HB6:=wM ((hbe.trans (hb25.mono hbe.size)).trans (hb6.mono (Ct ZP)));have hzw:w.heap.size<w6.heap.size:=AA ZP hb6.size;have HM:=wM (hob5.bsl.below hb6);clear hb6 uX hgi hr6 Up MW hob5 hb5 hb45 hb25 Db OQ ZP hc4 hr4 hb24 hb4 hob4 hb3 hbm hc2 hr2 hz2 hbe hb2 hob Ed kc;go_loopw [4,34] (fun u i wr=>∃ j:Nat,j<=4/\i=J Z j/\Hid (BSl wr u (GU L (2+j)))/\Hid (Ap w6.heap.size w6 wr)) (fun _ i _=>4-(intOf i).toNat)
 case atStart=>exact⟨0,by omega,rfl,HM,AC _ _⟩
 case round=>
  obtain⟨j,hj,rfl,HBS,HBR⟩:=hrel;clear HM;by_cases hlt:j<4
  . have hx0:=O5 HFR.out (2+j) (by omega)
    obtain⟨x,hx⟩:=nm (num L (2+j));have MW:wr.cell? ⟨gi,j,I⟩=U (J Z x):=(by rw[HBR.out.cell MX,hx];exact HCI.out j hlt);rw[<- hx] at hx0;have HPU:=wM (kv (L:=L) (2+j) (by omega) (by omega) x hx hx0);have ej:(j:Int)<4:=(by omega);clear hx;go_wp2_with (go_at_call 112;refine(HPU.out _ _ HBS.out).mono ?_;rintro e w7 ⟨v7,rfl,hob7,hb7⟩)
    go_roundw
    case rel=>exact⟨j+1,by omega,by go_num,hob7.bsl,HBR.out.trans (hb7.mono HBR.out.size)⟩
    case measure=>simp[intOf];omega
  . obtain rfl:j=4:=by omega
    go_wp2;obtain⟨w8,hw8⟩:=nm wr;rw[<- hw8] at HBS HBR |-
    clear hw8;go_loopw [4,45] (fun u i wr=>∃ j:Nat,j<=6/\i=J Z j/\Hid (BSl wr u (GU L (6+j)))/\Hid (Ap w6.heap.size w6 wr)) (fun _ i _=>6-(intOf i).toNat)
    case atStart=>exact⟨0,by omega,rfl,HBS,HBR⟩
    case round=>
     clear HBS HBR;obtain⟨j,hj,rfl,HBS,HBR⟩:=hrel;by_cases hlt:j<6
     . have hx0:=O5 HFR.out (6+j) (by omega)
       obtain⟨x,hx⟩:=nm (num L (6+j));have MW:wr.cell? ⟨w.heap.size,6+j,I⟩=U (J Z x):=(by rw[HBR.out.cell hzw,hx];exact HCX.out (6+j) (by omega));rw[<- hx] at hx0;have HPU:=wM (kv (L:=L) (6+j) (by omega) (by omega) x hx hx0);have ej:(j:Int)<6:=(by omega);clear hx;go_wp2_with (go_at_call 112;refine(HPU.out _ _ HBS.out).mono ?_;rintro e w7 ⟨v7,rfl,hob7,hb7⟩)
       go_roundw
       case rel=>
        refine⟨_,_,_,_,_,_,_,_,_,_,_,_,_,?_,rfl⟩;exact⟨j+1,by omega,by go_num,hob7.bsl,HBR.out.trans (hb7.mono HBR.out.size)⟩
       case measure=>simp[intOf];omega
     . obtain rfl:j=6:=by omega
       have HSE:=wM (Sr HBS.out (by rw[EA];decide));go_wp2_with (go_at_call 114;refine HSE.out.mono ?_;rintro e w9 ⟨v9,rfl,hob9,hb9⟩)
       go_ret2;have hB:=HB6.out.trans (HBR.out.mono HB6.out.size);exact⟨v9,rfl,hob9.more hB.size,hB.trans (hb9.mono hB.size)⟩
theorem nF{L:List Int}(hL:L.length=12)(hT:RA L)(w:r):Av Ae 75 #[F8 L] w (Ul L w):=by
 have h0:DP L=Ay\/DP L=AE:=by cases DP L <;> simp
 have KF:∀ B,DP L=B->_:=fun B h=>gz hL hT B h
 have hob:=As w (Ca L 156);obtain⟨W1,hW1⟩:=nm (w.alloc (Ca L 156));rw[<- hW1] at hob
 match L,hL with
 |[b,st,tg,cu,io,ba,t0,t1,t2,t3,t4,t5],_=>
  have Ko:w.alloc (Am #[J Z b,J Z st,J Z tg,J Z cu,J Z io,J Z ba,J Z t0,J Z t1,J Z t2,J Z t3,J Z t4,J Z t5] 156)=W1:=by rw[hW1];rfl
  have H2:=wM Ko;show Av Ae 75 #[BN #[J Z b,J Z st,J Z tg,J Z cu,J Z io,J Z ba,J Z t0,J Z t1,J Z t2,J Z t3,J Z t4,J Z t5]] w (Ul _ w)
  rcases h0 with h0|h0
  . refine Av.mono ?_ fun e w' h=>AW ⟨h0,h⟩
    have K0:Hid (∀ w,Av Ae 117 #[BN #[J Z b,J Z st,J Z tg,J Z cu,J Z io,J Z ba,J Z t0,J Z t1,J Z t2,J Z t3,J Z t4,J Z t5]] w fun e w'=>e=Aj (AP Ay)/\Ap w.heap.size w w'):=wM (KF _ h0);clear KF h0 hW1 Ko hT;go_enter Tryz.func75,Tryz.ntmps75;go_wp2_with (first|(go_at_call 117;rw[H2.out];refine(K0.out _).mono ?_;rintro e w2 ⟨rfl,hb2⟩))
    go_ret2;exact⟨rfl,hob.trans (hb2.mono hob.size)⟩
  . refine Av.mono ?_ fun e w' h=>AU ⟨h0,h⟩
    exact lz b st tg cu io ba t0 t1 t2 t3 t4 t5 _ rfl h0 w (KF _ h0)
def Yk(k:Nat):List Int:=(Bu 6).map fun i=>if 43+i<k then ((43+i:Nat):Int) else 0
def GT(n:Int)(k:Nat):List Int:=[n,0,0,0,0,0] ++ Yk k
theorem GO(n:Int)(k:Nat):(GT n k).length=12:=by simp[GT,Yk]
theorem iD(n:Int){k t:Nat}(h:k=43+t)(ht:t<6):(GT n k).set (6+t) (k:Int)=GT n (k+1):=by
 unfold GT;rw[List.set_append_right _ _ (by simp)];congr 1;apply Bg (by simp[Yk]);intro i h1 h2;simp only[Yk,Ef,Co,Cc,Bm,List.length_nil];by_cases e:6+t-6=i
 . rw[Au (by omega),Au (by omega),h];omega
 . rw[Ax (by omega)]
   by_cases hc:43+i<k
   . rw[Au hc,Au (by omega)]
   . rw[Ax hc,Ax (by omega)]
theorem fI(n:Int){k:Nat}(h:k<43\/49<=k):GT n k=GT n (k+1):=by
 unfold GT Yk;congr 1;apply Ck;intro i hi;have:=Bd.1 hi;by_cases hc:43+i<k
 . rw[Au hc,Au (by omega)]
 . rw[Ax hc,Ax (by omega)]
theorem Wrote.none'(w:r)(b:Nat):Wrote w w b:=⟨rfl,rfl,rfl,rfl,fun _ _=>rfl⟩
theorem Wrote.on{a b c:r}{g:Nat}(h:Wrote a b g)(k:Wrote b c g):Wrote a c g:=⟨k.1.trans h.1,k.2.1.trans h.2.1,k.2.2.1.trans h.2.2.1,k.2.2.2.1.trans h.2.2.2.1,fun x hx=>(k.2.2.2.2 x hx).trans (h.2.2.2.2 x hx)⟩
theorem nR(L:List Int):(L.map (J Z)).toArray.all (·.oneCell')=AE:=by
 rw[Array.all_eq_true'];intro v hv;simp at hv;obtain⟨x,_,rfl⟩:=hv;rfl
theorem TP:(Ae.info? 156).map (·.size)=U 12:=by kernel_rfl
theorem RD{kk:Nat}(h1:1<=kk)(h2:kk<=12)(w:r):Av Ae 66 #[J Z (64*(kk:Int))] w fun e w'=>∃ b g cap M,e=Aj (Al (U ⟨b,0,I⟩))/\RSp w' M (Al (U ⟨b,0,I⟩)) (64*(kk:Int)) (Gv kk)/\w'.cell? ⟨b,1,I⟩=U (Ak (U ⟨g,0,I⟩) (64*kk) cap)/\w.heap.size<=b/\w.heap.size<=g/\(∀ x,M x->w.heap.size<=x)/\b<w'.heap.size/\g<w'.heap.size/\64*kk<=cap/\
 (∀ j,j<64*kk->w'.cell? ⟨g,j*2,I⟩=U (J .u16 (Gr (64*kk) j).1)/\w'.cell? ⟨g,j*2+1,I⟩=U (J .u16 (Gr (64*kk) j).2))/\Ap w.heap.size w w':=by
 refine(c_ h1 h2 w).mono fun e w' ⟨p,M,he,hR,hM,hb⟩=>?_
 have hl:(Gv kk).length=64*kk:=CL _ _;have hR':=hR;obtain⟨b,v,rfl,_⟩:=hR';obtain⟨g,cap,cur,r1,r2,r3,r4,r5,r6,r7,r8⟩:=hR.all (by rw[hl];omega);refine⟨b,g,cap,M,he,hR,by rw[Aq _ _ _ _ _ _ r1,hl];rfl,hM b ((r7 b).2 (AU rfl)),hM g ((r7 g).2 (AW rfl)),hM,(Ah.1 r1).1,(Ah.1 r2).1,by omega,fun j hj=>?_,hb⟩;have:=r8 j (by rw[hl];exact hj)
 rwa [show(Gv kk).getD j (0,0)=Gr (64*kk) j from FX _ _ _ hj] at this
theorem bH{kk:Nat}(h1:1<=kk)(h2:kk<=12)(w:r):Av Ae 73 #[J Z (64*(kk:Int))] w fun e w'=>e=Aj (F8 (GT (64*(kk:Int)) (64*kk)))/\Ap w.heap.size w w':=by
 have KN:=wM (fun(W:r)=>RD h1 h2 W);go_enter Tryz.func73,Tryz.ntmps73;go_upto_region 2 with(fail)
 obtain⟨a,ha⟩:=nm w.heap.size;have hb1:=(As w (Ca (Aw 12 0) 156)).trans ((As (w.alloc (Ca (Aw 12 0) 156)) (Ca (GT (64*(kk:Int)) 0) 156)).mono (As w (Ca (Aw 12 0) 156)).size);have Il:((w.alloc (Ca (Aw 12 0) 156)).alloc (Ca (GT (64*(kk:Int)) 0) 156)).heap[w.heap.size]? =U (Ca (Aw 12 0) 156):=Bs (Ar w _) (As _ _);have hr1:((w.alloc (Ca (Aw 12 0) 156)).alloc (Ca (GT (64*(kk:Int)) 0) 156)).heap[w.heap.size+1]? =U (Ca (GT (64*(kk:Int)) 0) 156):=by
  have:=Ar (w.alloc (Ca (Aw 12 0) 156)) (Ca (GT (64*(kk:Int)) 0) 156)
  simpa using this
 obtain⟨W1,hW1⟩:=nm ((w.alloc (Ca (Aw 12 0) 156)).alloc (Ca (GT (64*(kk:Int)) 0) 156));rw[<- hW1] at hb1 Il hr1;rw[show(w.alloc (Obj.cells #[J Z 0,J Z 0,J Z 0,J Z 0,J Z 0,J Z 0,J Z 0,J Z 0,J Z 0,J Z 0,J Z 0,J Z 0] 156)).alloc (Obj.cells #[J Z (64*(kk:Int)),J Z 0,J Z 0,J Z 0,J Z 0,J Z 0,J Z 0,J Z 0,J Z 0,J Z 0,J Z 0,J Z 0] 156)=W1 from hW1.symm];rw[<- ha] at hb1 Il hr1 |-
 have Ed:a+1<W1.heap.size:=(Ah.1 hr1).1;obtain⟨L,hL⟩:=nm (64*kk);have hL768:L<=768:=by omega
 have hL64:64<=L:=by omega
 have HL:=wM hL;have HA:=wM ha;rw[<- hL] at KN;have HR0:=wM Il;have HR1:=wM hr1;have HB1:=wM hb1;clear Il hr1 hb1 hW1 ha hL;go_wp2_with (go_at_call 66;refine(KN.out _).mono ?_;rintro e w2 ⟨b,g,cap,M,rfl,hR,c1,hab,hag,hM,hbl,MX,Cx,hcc,hb2⟩)
 have HRS0:Hid (w2.heap[a]? =U (Ca (Aw 12 0) 156)):=wM (Bs HR0.out hb2);have HRS1:Hid (w2.heap[a+1]? =U (Ca (GT (64*(kk:Int)) 0) 156)):=wM (Bs HR1.out hb2);have HB2:Hid (Ap a w w2):=wM (HB1.out.trans (hb2.mono (by omega)));have HCC:=wM hcc;have hga:a+1<g:=by omega
 clear hR c1 hM hcc hb2 hab hag hbl HR0 HR1 HB1 Ed;go_loopw [15] (fun i wr=>∃ k:Nat,k<=L/\i=J Z k/\Hid (wr.heap[a+1]? =U (Ca (GT (64*(kk:Int)) k) 156))/\Hid (Wrote w2 wr (a+1))) (fun i _=>L-(intOf i).toNat)
 case atStart=>exact⟨0,by omega,rfl,HRS1,wM (Wrote.none' _ _)⟩
 case round=>
  obtain⟨k,hk,rfl,HS,HW⟩:=hrel;clear HRS1;by_cases hlt:k<L
  . obtain⟨k0,k1⟩:=HCC.out k hlt
    have ekL:(k:Int)<(L:Int):=(by omega);have c0:=(A5 (a:=⟨g,k*2,I⟩) (HW.out.2.2.2.2 g (by omega))).trans k0;have c1:=(A5 (a:=⟨g,k*2+1,I⟩) (HW.out.2.2.2.2 g (by omega))).trans k1;by_cases hm:43<=k/\k<49
    . obtain⟨t,ht⟩:∃ t:Nat,t=k-43:=⟨_,rfl⟩
      have uY:k=43+t:=(by omega);have ht6:t<6:=(by omega);have et6:(t:Int)<6:=(by omega);have eT:Gr L k=(65534,(t:Int)):=by
       unfold Gr;rw[(Mk (j:=k)).2 hm.1 hm.2,Ax (by decide),Au (by omega)];congr 1;omega
      rw[eT] at c0 c1;have hset:=iD (64*(kk:Int)) uY ht6;have hf:=frozen_of_row wr (a+1) (6+t) _ _ HS.out;have Jr:=Hv HS.out (6+t) (by rw[GO];omega);have HS2:(wr.setCell ⟨a+1,6+t,I⟩ (J Z k)).heap[a+1]? =_:=A8 wr (a+1) (6+t) _ _ _ HS.out;have HX:Hid ((wr.setCell ⟨a+1,6+t,I⟩ (J Z k)).heap[a+1]? =U (Ca (GT (64*(kk:Int)) (k+1)) 156)):=wM (by
       rw[HS2,<- hset];unfold Ca;rw[AV,List.map_set])
      have HY:Hid (Wrote w2 (wr.setCell ⟨a+1,6+t,I⟩ (J Z k)) (a+1)):=wM (HW.out.on (Wrote.setCell wr (a+1) (6+t) _));clear k0 k1 eT hset HS2 ht hm uY;go_wp2;generalize wr.setCell ⟨a+1,6+t,I⟩ (J Z k)=Y at HX HY |-
      go_roundw
      case rel=>exact⟨k+1,by omega,by go_num,HX,HY⟩
      case measure=>simp[intOf];omega
    . have hne:(Gr L k).1≠65534:=by
       unfold Gr;split
       . decide
       . rw[Ax (by omega)];decide
      have hxb:((Gr L k).1==65534)=Ay:=by simpa using hne
      have HX:Hid (wr.heap[a+1]? =U (Ca (GT (64*(kk:Int)) (k+1)) 156)):=wM (by rw[<- fI _ (show k<43\/49<=k by omega)];exact HS.out);obtain⟨x,hx⟩:=nm ((Gr L k).1);rw[<- hx] at c0 hxb;clear k0 k1 hne hm hx HS;go_wp2;go_roundw
      case rel=>exact⟨k+1,by omega,by go_num,HX,HW⟩
      case measure=>simp[intOf];omega
  . obtain rfl:k=L:=by omega
    have hs:wr.heap[a+1]? =U (Am ((GT (64*(kk:Int)) k).map (J Z)).toArray 156 (0,0)):=HS.out;have hb:Ap a w wr:=HB2.out.trans (HW.out.below (by omega));have Il:wr.heap[a]? =U (Am ((Aw 12 (0:Int)).map (J Z)).toArray 156 (0,0)):=(by rw[HW.out.2.2.2.2 a (by omega)];exact HRS0.out);have HBE:=wM hb;have HLL:Hid (k=64*kk):=HL;clear hb HS HW
    go_wp2_with (first
     |(with_reducible refine wpList_load_row rfl 156 (.tmp 3) rfl (a+1) rfl 156 _ (0,0) _ hs Tryz.underlying156 rfl (by rw[TP];simp[GO]) ?_)
     |(with_reducible refine C0 rfl 156 (.tmp 2) (.tmp 33) rfl a ((GT (64*(kk:Int)) k).map (J Z)).toArray rfl rfl 156 _ Il (by rw[TP];simp[GO]) (by simp[GO]) (nR _) ?_))
    have hw5:=Wrote.setRow wr a ((GT (64*(kk:Int)) k).map (J Z)).toArray;have Db:(wr.setRow a ((GT (64*(kk:Int)) k).map (J Z)).toArray).heap[a]? =_:=CC _ _ _ _ _ _ Il;refine AS (results_cell_row rfl _ _ a 156 _ (0,0) _ rfl Db Tryz.underlying156 rfl (by rw[TP];simp[GO])) rfl ⟨?_,?_⟩
    . rw[<- HLL.out];rfl
    . have:=HBE.out.trans (hw5.below (At _))
      rw[<- HA.out];exact this
end
section
open Go.RowKit BM
theorem qe{w:r}{v:Ao}{l:List Int}(hs:BSl w v l)(hl:l.length<=1000)(x:Int)(h0:0<=x)(h1:x<=65535):Av Ae 112 #[v,J .u64 x,J Z 2] w (JQ w (l ++ BT x 2)):=
 Im hs (by omega) x 2 2 (by omega) (by omega) rfl h0 (by omega)
theorem cp{w:r}{v:Ao}{L:List Bool}(hk:KSl w v L)(g:Int)(h1:0<=g)(h2:g<12)(hL:L.length=64):
 Av Ae 70 #[BN #[J Z g,v]] w fun e w'=>∃ v,e=Aj (AH #[v,J Z 0])/\OB w' w.heap.size v (Gz g L)/\Ap w.heap.size w w':=by
 obtain⟨ao,cap,rfl⟩:=hk.shape;rw[hL] at hk |-
 have hb1:Ap w.heap.size w ((w.alloc (Am #[J Z g,Ak ao 64 cap] 152)).alloc (Am #[Ak ao 64 cap] 206)):=((AC _ _).alloc (At _) _).alloc (by simp) _;have hd1:=heap_alloc2_old w (Am #[J Z g,Ak ao 64 cap] 152) (Am #[Ak ao 64 cap] 206);have tv:=heap_alloc2_new w (Am #[J Z g,Ak ao 64 cap] 152) (Am #[Ak ao 64 cap] 206);obtain⟨w1,hw1⟩:=nm ((w.alloc (Am #[J Z g,Ak ao 64 cap] 152)).alloc (Am #[Ak ao 64 cap] 206));rw[<- hw1] at hb1 hd1 tv;have HW1:=wM hw1;have HK:=wM (hk.below hb1);have bj:=Kw L;obtain⟨C,hC⟩:=nm (D9 L);rw[<- hC,hL] at bj;have HC:=wM hC;have HL:=wM hL;have hlq:w.heap.size+1<w1.heap.size:=(Ah.1 tv).1;have c0:w1.cell? ⟨w.heap.size,0,I⟩=U (J Z g):=by rw[Aq _ _ _ _ _ _ hd1];rfl
 have HQ:=wM (show w1.cell? ⟨w.heap.size+1,0,I⟩=U (Ak ao 64 cap) by rw[Aq _ _ _ _ _ _ tv];rfl);have kc:=fun(w:r) (C:Array Ao) (n c:Nat)=>E4 (P:=Ae) w 77 5 C n c Tryz.underlying77 Tryz.underlying5
 have g0:¬ g<0:=by omega
 have g1:¬ 11<g:=by omega
 clear hk hC hL hd1 tv hw1;go_enter Tryz.func70,Tryz.ntmps70;go_upto_region 4 with(fail)
 rw[<- HW1.out];obtain⟨q,hqq⟩:=nm (w.heap.size+1);rw[<- hqq] at HQ hlq |-
 have hlq0:w.heap.size<w1.heap.size:=by omega
 clear hqq;go_wp2_with fail
 have hbm:=Vk w1;have hb2:=As w1 (Am #[J .u8 100,J .u8 101,J .u8 115,J .u8 99] 5 (4,5));generalize w1.alloc (Am #[J .u8 100,J .u8 101,J .u8 115,J .u8 99] 5 (4,5))=w2 at hbm hb2 |-
 have HMG:=wM (qe hbm (by decide) g h1 (by omega));clear hbm kc
 go_wp2_with (first
  |(go_at_call 112;(with_reducible refine HMG.out.mono ?_);rintro e w4 ⟨v4,rfl,hob4,hb4⟩
    have hb14:Ap w1.heap.size w1 w4:=hb2.trans (hb4.mono hb2.size);have hq4:=(hb14.cell (p:=⟨q,0,I⟩) hlq).trans HQ.out)
  |(go_at_call 113;refine(kh hq4 (HK.out.below hb14) (by rw[HL.out];decide)).mono ?_;rw[<- HC.out];rintro e w5 ⟨rfl,rfl⟩
    have HP2:=wM (qe hob4.bsl (by rw[AD,Bc];decide) (C:Int) (by omega) (by omega)))
  |(go_at_call 112;(with_reducible refine HP2.out.mono ?_);rintro e w6 ⟨v6,rfl,hob6,hb6⟩
    have hb16:Ap w1.heap.size w1 w6:=hb14.trans (hb6.mono hb14.size);have qv:=(hb16.cell (p:=⟨q,0,I⟩) hlq).trans HQ.out)
  |(go_at_call 115;refine(lC qv (AA hlq hb16.size) (HK.out.below hb16) (by rw[HL.out];decide) (II L) (PH L)).mono ?_;rintro e w7 ⟨v7,rfl,hs7,hb7⟩
    have hb17:Ap w1.heap.size w1 w7:=hb16.trans (hb7.mono hb16.size))
  |(at_builtin
    refine BQ w7 rfl (.tmp 35) (.tmp 37) rfl w1.heap.size _ ([100,101,115,99] ++ BT g 2 ++ BT (C:Int) 2) rfl ((hob6.below hb7).more hb14.size) w7 v7 (II L) rfl hs7 (fun _ _=>rfl) (by rw[ES,HL.out];simp[Bc]) hb17.size ?_;intro v8 w8 hob8 hb8 _;have hb18:Ap w1.heap.size w1 w8:=hb17.trans hb8;have HSE:Hid (Av Ae 114 #[v8] w8 (O0 (O9 g L) w8)):=wM (by rw[O9,<- HC.out];exact Sr hob8.bsl (by rw[AD,ES,HL.out];simp[Bc])))
  |(go_at_call 114;refine HSE.out.mono ?_;rintro e w9 ⟨v9,rfl,hob9,hb9⟩))
 go_ret2;exact⟨v9,rfl,hob9.more (AI hb1.size hb18.size),(hb1.trans (hb18.mono hb1.size)).trans (hb9.mono (AI hb1.size hb18.size))⟩
end
section
open Go.RowKit
theorem kf(kd ln sz mp:Int)(D:List Int):Ma kd ln sz mp D=AE ↔ (1<=kd/\kd<=3)/\(0<=ln/\ln<=200)/\(0<=sz/\sz<=35328/\(kd=3->sz<=200))/\FT D=AE/\Uf mp=AE:=by
 unfold Ma di;simp only[AQ,A4];by_cases h:kd=3
 . rw[Au h]
   constructor
   . rintro⟨h1,h2,h3,h4,h5⟩;exact⟨h1,h2,⟨h3.1,by omega,fun _=>h3.2⟩,h4,h5⟩
   . rintro⟨h1,h2,h3,h4,h5⟩;exact⟨h1,h2,⟨h3.1,h3.2.2 h⟩,h4,h5⟩
 . rw[Ax h]
   constructor
   . rintro⟨h1,h2,h3,h4,h5⟩;exact⟨h1,h2,⟨h3.1,h3.2,fun e=>absurd e h⟩,h4,h5⟩
   . rintro⟨h1,h2,h3,h4,h5⟩;exact⟨h1,h2,⟨h3.1,h3.2.1⟩,h4,h5⟩
theorem YG(kd ln sz d0 d1 d2 d3 d4 d5 d6 d7 d8 d9 mp:Int)(h:kd=0)(w:r):Av Ae 116 #[BN #[J Z kd,J Z ln,J Z sz,J Z d0,J Z d1,J Z d2,J Z d3,J Z d4,J Z d5,J Z d6,J Z d7,J Z d8,J Z d9,J Z mp]] w fun e w'=>e=Aj (AP (decide ([kd,ln,sz,d0,d1,d2,d3,d4,d5,d6,d7,d8,d9,mp]=zeroI)))/\Ap w.heap.size w w':=by
 have hb:=As w (Am #[J Z kd,J Z ln,J Z sz,J Z d0,J Z d1,J Z d2,J Z d3,J Z d4,J Z d5,J Z d6,J Z d7,J Z d8,J Z d9,J Z mp] 159);have hr:=Ar w (Am #[J Z kd,J Z ln,J Z sz,J Z d0,J Z d1,J Z d2,J Z d3,J Z d4,J Z d5,J Z d6,J Z d7,J Z d8,J Z d9,J Z mp] 159);have NS:(w.alloc (Am #[J Z kd,J Z ln,J Z sz,J Z d0,J Z d1,J Z d2,J Z d3,J Z d4,J Z d5,J Z d6,J Z d7,J Z d8,J Z d9,J Z mp] 159)).rangeAt w.heap.size 0 (iC [kd,ln,sz,d0,d1,d2,d3,d4,d5,d6,d7,d8,d9,mp]):=Gn hr;have HRG:=wM NS;have u1:=Tryz.underlying159;clear hr NS;have hk:(kd==0)=AE:=by simp[h]
 clear h;go_enter Tryz.func116,Tryz.ntmps116
 go_wp2_with (first
  |(with_reducible refine Bw rfl 159 (.tmp 1) rfl w.heap.size 0 rfl [kd,ln,sz,d0,d1,d2,d3,d4,d5,d6,d7,d8,d9,mp] _ HRG.out u1 rfl rfl ?_)
  |(with_reducible refine Rg rfl (.tmp 7) (.tmp 8) rfl [kd,ln,sz,d0,d1,d2,d3,d4,d5,d6,d7,d8,d9,mp] zeroI rfl rfl rfl rfl ?_))
 go_ret;exact⟨rfl,hb⟩
theorem o0(kd ln sz d0 d1 d2 d3 d4 d5 d6 d7 d8 d9 mp:Int)(h0:kd≠0)(B:Bool)(hB:B=Ma kd ln sz mp [d0,d1,d2,d3,d4,d5,d6,d7,d8,d9])(w:r):Av Ae 116 #[BN #[J Z kd,J Z ln,J Z sz,J Z d0,J Z d1,J Z d2,J Z d3,J Z d4,J Z d5,J Z d6,J Z d7,J Z d8,J Z d9,J Z mp]] w fun e w'=>e=Aj (AP B)/\Ap w.heap.size w w':=by
 have hb:=As w (Am #[J Z kd,J Z ln,J Z sz,J Z d0,J Z d1,J Z d2,J Z d3,J Z d4,J Z d5,J Z d6,J Z d7,J Z d8,J Z d9,J Z mp] 159);have hr:(w.alloc (Am #[J Z kd,J Z ln,J Z sz,J Z d0,J Z d1,J Z d2,J Z d3,J Z d4,J Z d5,J Z d6,J Z d7,J Z d8,J Z d9,J Z mp] 159)).heap[w.heap.size]? =U (iO [kd,ln,sz,d0,d1,d2,d3,d4,d5,d6,d7,d8,d9,mp] 159):=Ar w _;obtain⟨W1,hW1⟩:=nm (w.alloc (Am #[J Z kd,J Z ln,J Z sz,J Z d0,J Z d1,J Z d2,J Z d3,J Z d4,J Z d5,J Z d6,J Z d7,J Z d8,J Z d9,J Z mp] 159));have hb1:Ap w.heap.size w W1:=by rw[hW1];exact hb
 rw[<- hW1] at hr;have H2:=wM hW1.symm;have hk:(kd==0)=Ay:=by simp[h0]
 have HD:Hid (∀ j,j<10->W1.cell? ⟨w.heap.size,3+j,I⟩=U (J Z ([d0,d1,d2,d3,d4,d5,d6,d7,d8,d9].getD j 0))):=fun j hj=>by
  rw[Gp hr (3+j) (by simp;omega),show 3+j=j+3 by omega];have:j=0\/j=1\/j=2\/j=3\/j=4\/j=5\/j=6\/j=7\/j=8\/j=9:=by omega
  rcases this with rfl|rfl|rfl|rfl|rfl|rfl|rfl|rfl|rfl|rfl <;> rfl
 have hiff:=kf kd ln sz mp [d0,d1,d2,d3,d4,d5,d6,d7,d8,d9];rw[<- hB] at hiff;have Uq:∀ {P:Prop},(B=AE->P)->¬ P->B=Ay:=fun h hn=>by
  cases hB:B
  . rfl
  . exact absurd (h hB) hn
 have HNO:Hid (¬ ((1<=kd/\kd<=3)/\(0<=ln/\ln<=200)/\(0<=sz/\sz<=35328/\(kd=3->sz<=200)))->B=Ay):=fun hn=>Uq (fun h=>⟨(hiff.1 h).1,(hiff.1 h).2.1,(hiff.1 h).2.2.1⟩) hn
 have HYE:Hid ((1<=kd/\kd<=3/\(0<=ln/\ln<=200)/\(0<=sz/\sz<=35328)/\(kd=3->sz<=200))->Uf mp=AE->FT [d0,d1,d2,d3,d4,d5,d6,d7,d8,d9]=AE->B=AE):=fun h1 h2 h3=>hiff.2 ⟨⟨h1.1,h1.2.1⟩,h1.2.2.1,⟨h1.2.2.2.1.1,h1.2.2.2.1.2,h1.2.2.2.2⟩,h3,h2⟩
 obtain⟨B4,h4⟩:∃ b,Uf mp=b:=⟨_,rfl⟩;have HN4:Hid (B4=Ay->B=Ay):=fun h=>Uq (fun hh=>(hiff.1 hh).2.2.2.2) (by rw[h4,h];decide)
 have HND:Hid (∀ j,j<10->Uf ([d0,d1,d2,d3,d4,d5,d6,d7,d8,d9].getD j 0)=Ay->B=Ay):=fun j hj h=>Uq (fun hh=>(hiff.1 hh).2.2.2.1) (by rw[aJ (l:=[d0,d1,d2,d3,d4,d5,d6,d7,d8,d9]) (k:=j) (by simpa using hj) h];decide)
 rw[h4] at HYE;have K4:=wM (Nb mp B4 h4);clear hiff Uq hW1 hr hB h4;by_cases a1:0<=kd
 case neg=>
  obtain rfl:B=Ay:=HNO.out (by omega);go_enter Tryz.func116,Tryz.ntmps116;go_wp2_with (go_at_call 156;with_reducible refine(K4.out _).mono ?_;rintro e w' ⟨rfl,rfl⟩)
  go_ret;exact⟨rfl,hb⟩
 by_cases a2:kd<=3
 case neg=>
  obtain rfl:B=Ay:=HNO.out (by omega);go_enter Tryz.func116,Tryz.ntmps116;go_wp2_with (go_at_call 156;with_reducible refine(K4.out _).mono ?_;rintro e w' ⟨rfl,rfl⟩)
  go_ret;exact⟨rfl,hb⟩
 by_cases a3:0<=ln
 case neg=>
  obtain rfl:B=Ay:=HNO.out (by omega);go_enter Tryz.func116,Tryz.ntmps116;go_wp2_with (go_at_call 156;with_reducible refine(K4.out _).mono ?_;rintro e w' ⟨rfl,rfl⟩)
  go_ret;exact⟨rfl,hb⟩
 by_cases a4:ln<=200
 case neg=>
  obtain rfl:B=Ay:=HNO.out (by omega);go_enter Tryz.func116,Tryz.ntmps116;go_wp2_with (go_at_call 156;with_reducible refine(K4.out _).mono ?_;rintro e w' ⟨rfl,rfl⟩)
  go_ret;exact⟨rfl,hb⟩
 by_cases a5:0<=sz
 case neg=>
  obtain rfl:B=Ay:=HNO.out (by omega);go_enter Tryz.func116,Tryz.ntmps116;go_wp2_with (go_at_call 156;with_reducible refine(K4.out _).mono ?_;rintro e w' ⟨rfl,rfl⟩)
  go_ret;exact⟨rfl,hb⟩
 by_cases a6:sz<=35328
 case neg=>
  obtain rfl:B=Ay:=HNO.out (by omega);go_enter Tryz.func116,Tryz.ntmps116;go_wp2_with (go_at_call 156;with_reducible refine(K4.out _).mono ?_;rintro e w' ⟨rfl,rfl⟩)
  go_ret;exact⟨rfl,hb⟩
 by_cases h3:kd=3
 case pos=>
  subst h3;clear a1 a2 hk;by_cases a7:sz<=200
  case neg=>
   obtain rfl:B=Ay:=HNO.out (by omega);go_enter Tryz.func116,Tryz.ntmps116;go_wp2_with (go_at_call 156;with_reducible refine(K4.out _).mono ?_;rintro e w' ⟨rfl,rfl⟩)
   go_ret;exact⟨rfl,hb⟩
  cases B4
  case false=>
   obtain rfl:B=Ay:=HN4.out rfl;go_enter Tryz.func116,Tryz.ntmps116;go_wp2_with (go_at_call 156;with_reducible refine(K4.out _).mono ?_;rintro e w' ⟨rfl,rfl⟩)
   go_ret;exact⟨rfl,hb⟩
  case true=>
   have hyes:=HYE.out ⟨by omega,by omega,by omega,by omega,by omega⟩ rfl;have HYE2:=wM hyes;clear hyes HYE HNO HN4;go_enter Tryz.func116,Tryz.ntmps116;go_wp2_with (go_at_call 156;with_reducible refine(K4.out _).mono ?_;rintro e w' ⟨rfl,rfl⟩)
   rw[H2.out]
   go_loop [54] (fun i=>∃ j:Nat,j<=10/\i=J Z j/\Hid (∀ i,i<j->Uf ([d0,d1,d2,d3,d4,d5,d6,d7,d8,d9].getD i 0)=AE)) (fun i=>10-(intOf i).toNat)
   case atStart=>exact⟨0,by omega,rfl,fun i hi=>absurd hi (A9 _)⟩
   case round=>
    obtain⟨j,hj,rfl,HJ⟩:=hrel;by_cases hlt:j<10
    . have MW:=HD.out j hlt
      have hnd:=HND.out j hlt;obtain⟨x,hx⟩:=nm ([d0,d1,d2,d3,d4,d5,d6,d7,d8,d9].getD j 0);rw[<- hx] at MW hnd;have HX:=wM hx;have ej:(j:Int)<10:=(by omega);obtain⟨Bx,hbx⟩:∃ b,Uf x=b:=⟨_,rfl⟩;have KX:=wM (Nb x Bx hbx);have HBX:=wM hbx;clear hx hbx;cases Bx
      . obtain rfl:B=Ay:=hnd HBX.out
        go_wp2_with (go_at_call 156;with_reducible refine(KX.out _).mono ?_;rintro e w' ⟨rfl,rfl⟩)
        go_ret;exact⟨rfl,hb1⟩
      . clear hnd
        go_wp2_with (go_at_call 156;with_reducible refine(KX.out _).mono ?_;rintro e w' ⟨rfl,rfl⟩)
        go_round
        case rel=>
         refine⟨j+1,by omega,by go_num,fun i hi=>?_⟩;by_cases e:i=j
         . subst e;rw[<- HX.out];exact HBX.out
         . exact HJ.out i (by omega)
        case measure=>simp[intOf];omega
    . obtain rfl:j=10:=by omega
      obtain rfl:B=AE:=HYE2.out ((Fa _).2 HJ.out);go_wp2;go_ret;exact⟨rfl,hb1⟩
 case neg=>
  have hk3:(kd==3)=Ay:=by simp[h3]
  cases B4
  case false=>
   obtain rfl:B=Ay:=HN4.out rfl;go_enter Tryz.func116,Tryz.ntmps116;go_wp2_with (go_at_call 156;with_reducible refine(K4.out _).mono ?_;rintro e w' ⟨rfl,rfl⟩)
   go_ret;exact⟨rfl,hb⟩
  case true=>
   have hyes:=HYE.out ⟨by omega,by omega,by omega,by omega,by omega⟩ rfl;have HYE2:=wM hyes;clear hyes HYE HNO HN4;go_enter Tryz.func116,Tryz.ntmps116;go_wp2_with (go_at_call 156;with_reducible refine(K4.out _).mono ?_;rintro e w' ⟨rfl,rfl⟩)
   rw[H2.out]
   go_loop [54] (fun i=>∃ j:Nat,j<=10/\i=J Z j/\Hid (∀ i,i<j->Uf ([d0,d1,d2,d3,d4,d5,d6,d7,d8,d9].getD i 0)=AE)) (fun i=>10-(intOf i).toNat)
   case atStart=>exact⟨0,by omega,rfl,fun i hi=>absurd hi (A9 _)⟩
   case round=>
    obtain⟨j,hj,rfl,HJ⟩:=hrel;by_cases hlt:j<10
    . have MW:=HD.out j hlt
      have hnd:=HND.out j hlt;obtain⟨x,hx⟩:=nm ([d0,d1,d2,d3,d4,d5,d6,d7,d8,d9].getD j 0);rw[<- hx] at MW hnd;have HX:=wM hx;have ej:(j:Int)<10:=(by omega);obtain⟨Bx,hbx⟩:∃ b,Uf x=b:=⟨_,rfl⟩;have KX:=wM (Nb x Bx hbx);have HBX:=wM hbx;clear hx hbx;cases Bx
      . obtain rfl:B=Ay:=hnd HBX.out
        go_wp2_with (go_at_call 156;with_reducible refine(KX.out _).mono ?_;rintro e w' ⟨rfl,rfl⟩)
        go_ret;exact⟨rfl,hb1⟩
      . clear hnd
        go_wp2_with (go_at_call 156;with_reducible refine(KX.out _).mono ?_;rintro e w' ⟨rfl,rfl⟩)
        go_round
        case rel=>
         refine⟨j+1,by omega,by go_num,fun i hi=>?_⟩;by_cases e:i=j
         . subst e;rw[<- HX.out];exact HBX.out
         . exact HJ.out i (by omega)
        case measure=>simp[intOf];omega
    . obtain rfl:j=10:=by omega
      obtain rfl:B=AE:=HYE2.out ((Fa _).2 HJ.out);go_wp2;go_ret;exact⟨rfl,hb1⟩
theorem h_{L:List Int}(hL:L.length=14)(w:r):Av Ae 116 #[BN (iC L).toArray] w fun e w'=>e=Aj (AP (Ec L))/\Ap w.heap.size w w':=by
 match L,hL with
 |[kd,ln,sz,d0,d1,d2,d3,d4,d5,d6,d7,d8,d9,mp],_=>
  show Av Ae 116 #[BN #[J Z kd,J Z ln,J Z sz,J Z d0,J Z d1,J Z d2,J Z d3,J Z d4,J Z d5,J Z d6,J Z d7,J Z d8,J Z d9,J Z mp]] w fun e w'=>e=Aj (AP (if kd=0 then decide ([kd,ln,sz,d0,d1,d2,d3,d4,d5,d6,d7,d8,d9,mp]=zeroI) else Ma kd ln sz mp [d0,d1,d2,d3,d4,d5,d6,d7,d8,d9]))/\Ap w.heap.size w w'
  by_cases h0:kd=0
  . rw[Au h0];exact YG kd ln sz d0 d1 d2 d3 d4 d5 d6 d7 d8 d9 mp h0 w
  . rw[Ax h0];exact o0 kd ln sz d0 d1 d2 d3 d4 d5 d6 d7 d8 d9 mp h0 _ rfl w
theorem ji{L:List Int}(hL:L.length=14)(B:Bool)(h:Ec L=B)(w:r):Av Ae 116 #[BN (iC L).toArray] w fun e w'=>e=Aj (AP B)/\Ap w.heap.size w w':=by
 rw[<- h];exact h_ hL w
theorem Sm(w:r)(l:List Int)(hl:Fv l)(C:Array Ao)(hC:C=(l.map (J .u8)).toArray)(n:Nat)(hn:l.length=n):BSl (w.alloc (Am C 5)) (Ak (U ⟨w.heap.size,0,I⟩) n n) l:=by
 subst hC hn;refine⟨hl,AW ⟨⟨w.heap.size,0,I⟩,l.length,rfl,At _,fun j hj=>⟨by simp,rfl,?_⟩⟩⟩;show(w.alloc _).cell? ⟨w.heap.size,0+j,I⟩=_
 rw[Br,Aq _ _ _ _ _ _ (Ar w _)];simp[hj]
theorem aR(n:Int)(h:0<=n/\n<=255):BT n 1=[n]:=by
 rw[Hf,Hh,List.nil_append];simp only[Nat.mul_zero,Int.pow_zero,Int.ediv_one];rw[DQ h.1 (by omega)]
theorem g_(x:List Int)(h0:0<=x.getD 0 0/\x.getD 0 0<=255)(h1:0<=x.getD 1 0/\x.getD 1 0<=255):Ge x 2=[x.getD 0 0,x.getD 1 0]:=by
 show([] ++ BT (x.getD 0 0) 1) ++ BT (x.getD 1 0) 1=_
 rw[aR _ h0,aR _ h1];rfl
theorem e_{w w':r}{row:Option Nat}(h:w.grownBy w' row)(b:Nat)(hb:b<w.heap.size)(hne:∀ k,row=U k->k≠b):w'.heap[b]? =w.heap[b]? :=
 h.block b hb (fun e=>hne b e.symm rfl)
theorem rM:(Ae.info? 159).map (·.size)=U 14:=by kernel_rfl
theorem cI{w:r}(ao:Option Addr)(len cap:Nat)(h:len≠8):Av Ae 74 #[Ak ao len cap] w fun e w'=>e=Aj (AH #[Ak I 0 0,J Z 1])/\w=w':=by
 have hne:((len:Int) != 8)=AE:=by simp;omega
 go_enter Tryz.func74,Tryz.ntmps74;go_wp2;go_ret2;exact⟨rfl,rfl⟩
theorem nN{w:r}{v:Ao}{O:List (List Int)}(hs:NSl w v O)(h8:O.length=8):Av Ae 74 #[v] w (ai O w):=by
 obtain⟨b,off,cap,rfl,hb,hc⟩:=hs.at (by omega);have H14:=wM hs.1;have HYE:=wM (QT h8);have HNO:=wM (fun k hk h=>aV (k:=k) h8 hk h);have H8:=wM h8;rw[h8] at hc |-
 have HC:=wM hc;clear hs hc h8;go_enter Tryz.func74,Tryz.ntmps74;go_wp2;go_loopw [4,13] (fun u i wr=>∃ k:Nat,k<=8/\i=J Z k/\Hid (OB wr w.heap.size u (EQ O k))/\Hid (∀ j,j<k->Ec (O.getD j [])=AE)/\Ap w.heap.size w wr) (fun _ i _=>8-(intOf i).toNat)
 case atStart=>exact⟨0,by omega,rfl,⟨EY,Dn w _ _ _⟩,fun j hj=>absurd hj (A9 _),AC _ _⟩
 case round=>
  obtain⟨k,hk,rfl,HOB,HK,hbr⟩:=hrel;by_cases hlt:k<8
  . have NS:=NN (HC.out k hlt) hbr hb
    have CU:=HNO.out k hlt;have h14:=Hj H14.out k (by rw[H8.out];exact hlt);have lR:EQ O (k+1)=EQ O k ++ Ml (O.getD k []):=rfl;obtain⟨x,hx⟩:=nm (O.getD k []);rw[<- hx] at NS lR CU h14;have ek:(k:Int)<8:=(by omega);have HX:=wM hx;have HPK:=wM lR;have HL:=wM (Fp O k);have HN1:=wM CU;have HRG:=wM NS;have HX14:Hid (zeroI.length=x.length):=wM h14.symm;have HL14:=wM h14;have HI14:Hid ((Ae.info? 159).map (·.size)=U x.length):=wM (by rw[rM,h14]);have hz:(wr.alloc (Am #[J Z 0,J Z 0,J Z 0,J Z 0,J Z 0,J Z 0,J Z 0,J Z 0,J Z 0,J Z 0,J Z 0,J Z 0,J Z 0,J Z 0] 159)).heap[wr.heap.size]? =U (iO zeroI 159):=Ar wr _;have hbz:=As wr (Am #[J Z 0,J Z 0,J Z 0,J Z 0,J Z 0,J Z 0,J Z 0,J Z 0,J Z 0,J Z 0,J Z 0,J Z 0,J Z 0,J Z 0] 159);have HZ:=wM hz;have HBZ:=wM hbz;have u1:=Tryz.underlying159;obtain⟨B,hf⟩:∃ B,Ec x=B:=⟨_,rfl⟩;have HF:=wM hf;have KF:=wM (ji h14 B hf);clear hx lR CU NS h14 hz hbz hf;cases B
    . go_wp2_with (first
       |(with_reducible refine Bw rfl 159 (.tmp 18) rfl b (off+k*14) rfl x _ HRG.out u1 rfl HI14.out ?_)
       |(with_reducible refine D3 rfl 159 (.tmp 6) (.tmp 19) rfl wr.heap.size rfl x zeroI rfl HX14.out HI14.out _ HZ.out ?_
         intro w4 hw4 hr4;have NW:=Gn hr4;have hb4:=HBZ.out.trans (hw4.below (At _)))
       |(with_reducible refine Bw rfl 159 (.tmp 6) rfl wr.heap.size 0 rfl x _ NW u1 rfl HI14.out ?_)
       |(go_at_call 116;refine(KF.out _).mono ?_;rintro e w5 ⟨rfl,hb5⟩))
      go_ret2;exact AW ⟨HN1.out HF.out,rfl,(hbr.trans (hb4.mono hbr.size)).trans (hb5.mono (AI hbr.size hb4.size))⟩
    . have n0:=H6 HL14.out HF.out 0 (by decide)
      have n1:=H6 HL14.out HF.out 1 (by decide);have n2:=H6 HL14.out HF.out 2 (by decide);have n13:=H6 HL14.out HF.out 13 (by decide);rw[show w7 0=1 from rfl,show(256:Int) ^ 1=256 from rfl] at n0;rw[show w7 1=1 from rfl,show(256:Int) ^ 1=256 from rfl] at n1;rw[show w7 2=4 from rfl,show(256:Int) ^ 4=4294967296 from rfl] at n2;rw[show w7 13=2 from rfl,show(256:Int) ^ 2=65536 from rfl] at n13;have bu:=g_ x (by omega) (by omega);have lT:Ge x 3=Ge x 2 ++ BT (x.getD 2 0) 4:=rfl;have ZS:Ge x 14=Ge x 13 ++ BT (x.getD 13 0) 2:=rfl;have HD:=wM (fun j (hj:j<10)=>H6 HL14.out HF.out (3+j) (by omega));have HGX:=wM (fun(W:r) (h:W.heap[wr.heap.size]? =U (iO x 159)) j (hj:j<14)=>Gp h j (by rw[HL14.out];exact hj));obtain⟨a0,e0⟩:=nm (x.getD 0 0);obtain⟨a1,e1⟩:=nm (x.getD 1 0);obtain⟨a2,e2⟩:=nm (x.getD 2 0);obtain⟨a13,e13⟩:=nm (x.getD 13 0);rw[<- e0] at n0 bu;rw[<- e1] at n1 bu;rw[<- e2] at n2 lT;rw[<- e13] at n13 ZS;have E0:=wM e0;have E1:=wM e1;have E2:=wM e2;have E13:=wM e13;have HC2:=wM bu;have HC3:=wM lT;have HC14:=wM ZS;have HBB:Hid (Fv [a0,a1]):=wM (CH fun y hy=>by simp at hy;omega);obtain⟨n00,n01⟩:=n0;obtain⟨n10,n11⟩:=n1;obtain⟨n20,n21⟩:=n2;obtain⟨n30,n31⟩:=n13;clear e0 e1 e2 e13 bu lT ZS
      go_wp2_with (first
       |(with_reducible refine Bw rfl 159 (.tmp 18) rfl b (off+k*14) rfl x _ HRG.out u1 rfl HI14.out ?_)
       |(with_reducible refine D3 rfl 159 (.tmp 6) (.tmp 19) rfl wr.heap.size rfl x zeroI rfl HX14.out HI14.out _ HZ.out ?_
         intro w4 hw4 hr4;have NW:=Gn hr4;have hb4:=HBZ.out.trans (hw4.below (At _)))
       |(with_reducible refine Bw rfl 159 (.tmp 6) rfl wr.heap.size 0 rfl x _ NW u1 rfl HI14.out ?_)
       |(go_at_call 116;refine(KF.out _).mono ?_;rintro e w5 ⟨rfl,hb5⟩
         have Db:=(hb5.block _ (Ah.1 hr4).1).trans hr4;have SH:wr.heap.size<w5.heap.size:=(Ah.1 Db).1;have c0:=HGX.out _ Db 0 (by decide);have c1:=HGX.out _ Db 1 (by decide);rw[<- E0.out] at c0;rw[<- E1.out] at c1;have HR5:=wM Db;have HB5:=wM (hb4.trans (hb5.mono hb4.size));clear NW hb4 hb5 hw4 hr4 Db)
       |(at_builtin
         have hbx:=As w5 (Am #[J .u8 a0,J .u8 a1] 5);have lU:=Sm w5 [a0,a1] HBB.out #[J .u8 a0,J .u8 a1] rfl 2 rfl;generalize w5.alloc (Am #[J .u8 a0,J .u8 a1] 5)=w6 at hbx lU |-
         have hown:=HOB.out.2.lt;have h56:=HB5.out.trans (hbx.mono HB5.out.size);refine BQ w6 rfl _ _ rfl w.heap.size _ (EQ O k) rfl (HOB.out.below h56) w6 _ [a0,a1] rfl lU (fun _ _=>rfl) (by rw[HL.out];simp;omega) (AI hbr.size h56.size) ?_;intro v7 w7' hob7 hb7 tu;have NT:=(e_ tu wr.heap.size (AA SH hbx.size) (fun k hk e=>by have:=hown k hk;omega)).trans ((hbx.block _ SH).trans HR5.out);have c2:=HGX.out _ NT 2 (by decide);rw[<- E2.out] at c2;have uZ:wr.heap.size<w7'.heap.size:=(Ah.1 NT).1;have HR7:=wM NT;have HB7:=wM ((hbr.trans (h56.mono hbr.size)).trans hb7);clear hbx lU hown h56 hb7 tu NT c0 c1)
       |(go_at_call 112;refine(Im hob7.bsl (by rw[AD,HL.out];simp;omega) a2 4 4 (by omega) (by omega) rfl n20 (by omega)).mono ?_;rintro e w8 ⟨v8,rfl,hob8,hb8⟩))
      have gE:=(hb8.block _ uZ).trans HR7.out;have hg8:wr.heap.size<w8.heap.size:=(Ah.1 gE).1;have h78:Ap w.heap.size w w8:=HB7.out.trans (hb8.mono HB7.out.size);have qx:(EQ O k ++ [a0,a1]) ++ BT a2 4=EQ O k ++ Ge x 3:=(by rw[HC3.out,HC2.out,A7]);rw[qx] at hob8;have HOB8:=wM (hob8.more HB7.out.size);have HR8:=wM gE;have HB8:=wM h78;obtain⟨g,hg⟩:=nm wr.heap.size;rw[<- hg] at HGX HR8 hg8 |-
      have HZF:Hid (Fv [0,0,0,0]):=wM (C4 4);clear gE h78 qx hob8 hb8 c2 hob7 HR7 HB7 HR5 HB5 HZ HBZ SH uZ hg;have Zqa:Ap w8.heap.size w8 w8:=AC _ _;go_loopw [4,37] (fun u i wi=>∃ j:Nat,j<=10/\i=J Z j/\Hid (OB wi w.heap.size u (EQ O k ++ Ge x (3+j)))/\Ap w8.heap.size w8 wi) (fun _ i _=>10-(intOf i).toNat)
      case atStart=>exact⟨0,by omega,rfl,HOB8,Zqa⟩
      case round=>
       obtain⟨j,hj,rfl,HOI,hbi⟩:=hrel;clear HOB8 Zqa;have hri:=(hbi.block _ hg8).trans HR8.out;have hwi:=HB8.out.trans (hbi.mono HB8.out.size);by_cases Zqb:j<10
       . have cj:=HGX.out _ hri (3+j) (by omega)
         have nj:=HD.out j Zqb;have sa:Ge x (3+j+1)=Ge x (3+j) ++ BT (x.getD (3+j) 0) (w7 (3+j)):=rfl;rw[Nm,show(256:Int) ^ 2=65536 from rfl] at nj;rw[Nm] at sa;have hlen:(EQ O k ++ Ge x (3+j)).length<=140737488355300:=(by rw[AD,HL.out,EF,XH];omega);obtain⟨y,hy⟩:=nm (x.getD (3+j) 0);rw[<- hy] at cj nj sa;obtain⟨nj0,nj1⟩:=nj;have HCJ:=wM sa;have HLE:=wM hlen;have HWI:=wM hwi;have ej:(j:Int)<10:=(by omega);clear hy sa hlen hri hwi;go_wp2_with (go_at_call 112;refine(Im HOI.out.bsl HLE.out y 2 2 (by omega) (by omega) rfl nj0 (by omega)).mono ?_;rintro e w9 ⟨v9,rfl,hob9,hb9⟩)
         go_roundw
         case rel=>
          refine⟨j+1,by omega,by go_num,?_,hbi.trans (hb9.mono hbi.size)⟩;show OB _ _ _ (EQ O k ++ Ge x (3+j+1))
          rw[HCJ.out,<- A7];exact hob9.more HWI.out.size
         case measure=>simp[intOf];omega
       . obtain rfl:j=10:=by omega
         have c13:=HGX.out _ hri 13 (by decide);rw[<- E13.out] at c13;have HO13:=HOI;change Hid (OB _ _ _ (EQ O k ++ Ge x 13)) at HO13;have hlen:(EQ O k ++ Ge x 13).length<=140737488355300:=(by rw[AD,HL.out,EF];have:p7 13=26:=rfl;omega);have HLE:=wM hlen;have HWI:=wM hwi;clear hlen hri hwi HOI
         go_wp2_with (first
          |(go_at_call 112;refine(Im HO13.out.bsl HLE.out a13 2 2 (by omega) (by omega) rfl n30 (by omega)).mono ?_;rintro e w10 ⟨v10,rfl,hob10,hb10⟩
            have HB10:=wM (HWI.out.trans (hb10.mono HWI.out.size));have hob10':=hob10.more HWI.out.size;clear hb10 hob10)
          |(at_builtin
            have hbx:=As w10 (Am #[J .u8 0,J .u8 0,J .u8 0,J .u8 0] 5);have lU:=Sm w10 [0,0,0,0] HZF.out #[J .u8 0,J .u8 0,J .u8 0,J .u8 0] rfl 4 rfl;generalize w10.alloc (Am #[J .u8 0,J .u8 0,J .u8 0,J .u8 0] 5)=w11 at hbx lU |-
            have h011:=HB10.out.trans (hbx.mono HB10.out.size);refine BQ w11 rfl _ _ rfl w.heap.size _ _ rfl (hob10'.below hbx) w11 _ [0,0,0,0] rfl lU (fun _ _=>rfl) (by rw[AD,Bc];have:=HLE.out;simp only[Bm,List.length_nil];omega) h011.size ?_;intro v12 w12 Zqc hb12 _))
         go_roundw
         case rel=>
          refine⟨k+1,by omega,by go_num,?_,fun j hj=>?_,h011.trans hb12⟩
          . show OB _ _ _ (EQ O (k+1))
            rw[HPK.out,Ml,HC14.out,<- A7,<- A7];exact Zqc
          . by_cases e:j=k
            . subst e;rw[<- HX.out];exact HF.out
            . exact HK.out j (by omega)
         case measure=>simp[intOf];omega
  . obtain rfl:k=8:=by omega
    go_wp2;go_ret2;exact AU ⟨HYE.out HK.out,_,rfl,HOB.out,hbr⟩
theorem dC{w:r}{v:Ao}{O:List (List Int)}(hs:NSl w v O):Av Ae 74 #[v] w (ai O w):=by
 by_cases h:O.length=8
 . exact nN hs h
 . obtain⟨ao,cap,rfl⟩:=hs.shape
   refine(cI ao _ cap h).mono fun e w' ⟨he,hw⟩=>AW ⟨?_,he,by rw[<- hw];exact AC _ _⟩
   unfold G7;rw[AB h];rfl
theorem So{w:r}{v:Ao}{O:List (List Int)}(hs:NSl w v O)(h:G7 O=AE):Av Ae 74 #[v] w fun e w'=>∃ u,e=Aj (AH #[u,J Z 0])/\OB w' w.heap.size u (Gw O)/\Ap w.heap.size w w':=
 (dC hs).mono fun e w' ho=>ho.elim (fun h1=>h1.2) fun h1=>by rw[h] at h1;cases h1.1
theorem dF{w:r}{B g:Nat}(hg:w.heap[g]? =U (Am (AK 256 (J .u8 0)) 5 (0,0))):BElt w B (Ak (U ⟨g,0,I⟩) 256 256) zb:=by
 refine⟨Qa hg,fun _=>⟨g,0,256,by rw[Nk],(Ah.1 hg).1,AW ⟨_,hg⟩⟩⟩
theorem DZ{ops:Array BE}{rest:List BE}{op:BE}{a:Act}{w:r}{Q:Exit->Act->r->Prop}(Du:op.guard=I)(x y:Operand)(ho:op.op=.store 77 x y)
 (B g n cap k:Nat) (L:List (List Int)) (l:List Int) (u:Ao) (hx:a.eval x=Al (U ⟨g,k,I⟩)) (hy:a.eval y=u) (hown:BBR w B (Ak (U ⟨g,0,I⟩) n cap) L) (hk:k<L.length) (hu:BElt w B u l)
 (h:∀ w',BBR w' B (Ak (U ⟨g,0,I⟩) n cap) (L.set k l)->Ap B w w'->Wrote w w' g->Cf Ae ops Q rest (a.put op.dst undef) w'):Cf Ae ops Q (op :: rest) a w:=by
 obtain⟨ao,cap',rfl,_⟩:=hu.1.shape;obtain⟨cur,hg,Ed,hB⟩:=hown.row;have hf:=frozen_of_row w g k _ _ hg;have hc:w.cell? ⟨g,k,I⟩=U (cur[k]'(by omega)):=by rw[Aq _ _ _ _ _ _ hg];simp[show k<cur.size by omega]
 have hs:=hown.set hk hu;have hw:=Wrote.setCell w g k (Ak ao l.length cap');refine CA Du fun K hK=>?_
 unfold BE.wp execOp;simp only[ho,hx,hy]
 go_simp
 exact hK _ _ (h _ hs (hw.below hB) hw)
theorem ah{w0 w:r}{B:Nat}{u:Ao}{l:List Int}(hs:BSl w0 u l)(hB:B<=w0.heap.size)(hl:l.length<=1000)(x:Int)(hx0:0<=x)(hx:x<=65535)(hb:Ap w0.heap.size w0 w):
 Av Ae 112 #[u,J .u64 x,J Z 2] w fun e w'=>∃ v,e=Aj v/\OB w' B v (l ++ BT x 2)/\Ap w0.heap.size w0 w':=
 (Im (hs.below hb) (by omega) x 2 2 (by omega) (by omega) rfl hx0 (by omega)).mono fun e w' ⟨v,he,hob,hb2⟩=>⟨v,he,hob.more (AI hB hb.size),hb.trans (hb2.mono hb.size)⟩
theorem Zl{w:r}{b off cap:Nat}{O:List (Int × Int)}(hO:O.length=64)(hB:OwB O)(hb:b<w.heap.size)
 (hc:∀ j,j<O.length->w.cell? ⟨b,off+j*2,I⟩=U (J .u16 (O.getD j (0,0)).1)/\w.cell? ⟨b,off+j*2+1,I⟩=U (J .u16 (O.getD j (0,0)).2))
 (hall:Jc O 64=AE):Av Ae 68 #[Ak (U ⟨b,off,I⟩) 64 cap] w fun e w'=>∃ v,e=Aj (AH #[v,J Z 0])/\OB w' w.heap.size v (DM O)/\Ap w.heap.size w w':=by
 have HC:=wM hc;have HO:=wM hO;have HBB:=wM hB;have HAL:=wM ((Mw O 64).1 hall);have qn:DM O=Em O 64:=by unfold DM;rw[hO]
 have HPO:=wM qn;clear hc hO hB hall qn;go_enter Tryz.func68,Tryz.ntmps68;go_wp2;go_loopw [4,11] (fun u i wr=>∃ k:Nat,k<=64/\i=J Z k/\Hid (OB wr w.heap.size u (Em O k))/\Ap w.heap.size w wr) (fun _ i _=>64-(intOf i).toNat)
 case atStart=>exact⟨0,by omega,rfl,(⟨EY,Dn _ _ _ _⟩:OB _ _ _ []),AC _ _⟩
 case round=>
  obtain⟨k,hk,rfl,HU,hbr⟩:=hrel;by_cases hlt:k<64
  . have hck:=HC.out k (by rw[HO.out];exact hlt)
    have hbd:=HBB.out k;have hj:NJ O k=Gu (O.getD k (0,0)).1 (O.getD k (0,0)).2:=rfl;obtain⟨x,hx⟩:=nm ((O.getD k (0,0)).1);obtain⟨y,hy⟩:=nm ((O.getD k (0,0)).2);rw[<- hx,<- hy] at hck hbd hj;have c1:=(hbr.cell (p:=⟨b,off+k*2,I⟩) hb).trans hck.1;have c2:=(hbr.cell (p:=⟨b,off+k*2+1,I⟩) hb).trans hck.2;have ek:(k:Int)<64:=(by omega);have HPK:=wM (J9 O k x y hx hy);have hpl:=Ff O k;have HL1:Hid ((Em O k).length<=1000):=wM (by omega);have HL2:Hid ((Em O k ++ BT x 2).length<=1000):=wM (by rw[AD,Bc];omega);clear hx hy hck hpl;have px:=HAL.out k hlt;rw[hj] at px;have HF:=wM px;clear px hj;go_wp2_with (go_at_call 111;refine(Np x y hbd.1 hbd.2 AE HF.out _).mono ?_;rintro e w2 ⟨rfl,hb2⟩)
    have b0:b<wr.heap.size:=AA hb hbr.size;have b2:b<w2.drew.heap.size:=AA b0 hb2.size;have hbd2:Ap wr.heap.size wr w2.drew:=hb2.drew;have d1:w2.drew.cell? ⟨b,off+k*2,I⟩=U (J .u16 x):=(hbd2.cell (p:=⟨b,off+k*2,I⟩) b0).trans c1;have d2:w2.drew.cell? ⟨b,off+k*2+1,I⟩=U (J .u16 y):=(hbd2.cell (p:=⟨b,off+k*2+1,I⟩) b0).trans c2;have HC1:=wM (fun W (h:Ap wr.heap.size wr W)=>(hbr.trans (h.mono hbr.size)));have HX:=wM (fun W (h:Ap wr.heap.size wr W)=>And.intro ((h.cell (p:=⟨b,off+k*2,I⟩) b0).trans c1) ((h.cell (p:=⟨b,off+k*2+1,I⟩) b0).trans c2));have HP1:=wM (fun W (h:Ap wr.heap.size wr W)=>ah (B:=w.heap.size) HU.out.bsl hbr.size HL1.out x hbd.1.1 hbd.1.2 h);have te:IntKind.u64.wrap x=x:=u64_in x hbd.1.1 (by omega);have hwy:IntKind.u64.wrap y=y:=u64_in y hbd.2.1 (by omega);clear c1 c2 hb2 b2
    go_region_held3 (fun W=>W.cell? ⟨b,off+k*2,I⟩=U (J .u16 x)/\W.cell? ⟨b,off+k*2+1,I⟩=U (J .u16 y)) (first|exact⟨f1,f2⟩|exact⟨e1,e2⟩|exact⟨d1,d2⟩) (first
     |(go_at_call 112;(with_reducible refine(HP1.out _ hbd2).mono ?_);rintro e w3 ⟨v3,rfl,hs3,hb3⟩
       obtain⟨e1,e2⟩:=HX.out _ hb3;have HP2:=wM (fun W (h:Ap w3.heap.size w3 W)=>ah (B:=w.heap.size) hs3.bsl (AI hbr.size hb3.size) HL2.out y hbd.2.1 hbd.2.2 h))
     |(go_at_call 112;(with_reducible refine(HP2.out _ (AC _ _)).mono ?_);rintro e w4 ⟨v4,rfl,hs4,hb4⟩
       obtain⟨f1,f2⟩:=HX.out _ (hb3.trans (hb4.mono hb3.size))))
    go_wp2_with fail
    go_roundw
    case rel=>exact⟨k+1,by omega,by go_num,by show OB _ _ _ (Em O (k+1));rw[HPK.out];exact hs4,HC1.out _ (hb3.trans (hb4.mono hb3.size))⟩
    case measure=>simp[intOf];omega
  . obtain rfl:k=64:=by omega
    go_wp2;go_ret2;exact⟨_,rfl,by rw[HPO.out];exact HU.out,hbr⟩
theorem XW{w:r}{v:Ao}{O:List (Int × Int)}(hs:OwSl w v O)(h:FM O=AE):Av Ae 68 #[v] w fun e w'=>∃ v,e=Aj (AH #[v,J Z 0])/\OB w' w.heap.size v (DM O)/\Ap w.heap.size w w':=by
 have hl:=IU h;obtain⟨b,off,cap,rfl,hb,hc⟩:=hs.at (by omega);rw[hl];refine Zl hl hs.1 hb hc ?_;rw[FM,hl] at h
 simpa using h
end
end Go.Proofs.YtfpdajplfmakhaaGreatDoor
