/- What the law rests on. -/
import Derived.Deep.Cut
import Derived.Test.YtdefiimcmecnnaaGreatQC2
open Go.Value renaming int->O,slice->Ak,pointer->Am,tuple->AO,bool->A1,agg->BD
open Go.IntKind renaming i64->Ad
open Go.Proofs.Tryz renaming prog->Ae
open Option renaming none->J,some->Z
open Go.Ending renaming returned->Ag
open Go renaming World->Y,Value->I,Calls->AA,Oper->BS,wpList->Cn
open Go.Obj renaming cells->Ar
open Go.RowKit renaming Below->At
open List renaming replicate->AD,length_cons->Ch,range->Co
open Bool renaming false->AI,true->AL
open Or renaming inl->AN,inr->Ba
open Array renaming replicate->A3
open Int renaming toNat_natCast->B5
namespace Go.Proofs.YtdefiimcmecnnaaGreat
set_option maxHeartbeats 12000000
set_option linter.unusedVariables false
set_option maxRecDepth 100000
theorem AP:type_of% @Bool.true_and:=@Bool.true_and
theorem A8:type_of% @Nat.not_lt_zero:=@Nat.not_lt_zero
theorem A9:type_of% @Go.IntWalk.i64_in:=@Go.IntWalk.i64_in
theorem Bw:type_of% @List.getElem?_set_ne:=@List.getElem?_set_ne
theorem Bz:type_of% @Option.some.inj:=@Option.some.inj
theorem B7:type_of% @List.mem_cons_self:=@List.mem_cons_self
theorem CG:type_of% @Go.World.cell?_setCells_out:=@Go.World.cell?_setCells_out
theorem Dh:type_of% @Go.IntWalk.u64_in:=@Go.IntWalk.u64_in
theorem Hj:type_of% @Go.World.rangeAt_setCells_apart:=@Go.World.rangeAt_setCells_apart
section
open Go.RowKit
def th(w:Y)(B bp bf bv:Nat)(F V:List (List Int))(U:List (Nat × List Int))(fu:Bool)(le:Int)(dn:Bool)(kp:Nat->Bool)(e:Ending)(w':Y):Prop:=
 e=Ag (AO #[])/\DskAt w' B bp bf bv (Ak J 0 0) (Sk kp U F U.length) (Zx U (Sk kp U F U.length) V U.length) [] fu le dn/\At B w w'/\Fr3 w w' bp bf bv
theorem fy{w:Y}{B bp bf bv:Nat}{u:I}{F V:List (List Int)}{U:List (Nat × List Int)}{fu dn:Bool}{le:Int}(h:DskAt w B bp bf bv u F V U fu le dn)(rj:B<=w.heap.size)(hUl:U.length<=1000000)(kp:Nat->Bool)
 (hk:∀ W,Frm w W bf bv->∀ i,i<U.length->AA Ae 152 #[O Ad i] W fun e w'=>e=Ag (A1 (kp i))/\∃ m,w'=W.drewN m):
 AA Ae 151 #[Am (Z ⟨bp,0,J⟩),.func (.func 152) #[] #[]] w (th w B bp bf bv F V U fu le dn kp):=by
 obtain⟨ao,cap,rfl⟩:=h.shapeU;have c2:=h.c2;have HU:Hid (∀ x∈U,x.1<V.length/\XR x.2):=h.okU;have HLen:Hid (F.length=V.length):=h.len;have HZ:=vJ Fw;have HBw:=vJ rj;have HbB:Hid (B<=bp/\B<=bf/\B<=bv):=h.bB;have hdr:∀ (W:Y) (m:Nat),At W.heap.size W (W.drewN m):=fun W m=>A2 (AM _ _) m
 clear rj;go_enter Tryz.func151,Tryz.ntmps151;go_wp2_with fail
 have HD0:Hid (DskAt w B bp bf bv (Ak ao U.length cap) F V U fu le dn):=h;clear h c2
 go_loopw [13] (fun i wr=>∃ k:Nat,k<=U.length/\i=O Ad k/\Hid (DskAt wr B bp bf bv (Ak ao U.length cap) (Sk kp U F k) V U fu le dn)/\Hid (Frm w wr bf bv))
  (fun i _=>U.length-(intOf i).toNat)
 case atStart=>exact⟨0,by omega,rfl,HD0,Frm.refl _ _ _⟩
 case round=>
  obtain⟨k,XV,rfl,HD,HF⟩:=hrel;by_cases hlt:k<U.length
  . have XH:(k:Int)<(U.length:Int):=by omega
    obtain⟨g,cap',hu,Ok,hr⟩:=HD.out.rangeU k hlt;obtain⟨rfl,rfl⟩:ao=Z ⟨g,0,J⟩/\cap'=cap:=⟨(A0 hu).1,(A0 hu).2.2.symm⟩;have hx:=HU.out U[k] (Bf _);have Dn:U.getD k (0,[])=U[k]:=(by rw[An,AS hlt];rfl);obtain⟨⟨at_,data⟩,XW⟩:∃ x,x=U[k]:=⟨_,rfl⟩;rw[<- XW] at hx hr Dn;have HX:Hid (at_<V.length/\XR data):=hx;have HR:Hid (wr.rangeAt g (k*257) (O Ad at_ :: cB data)):=hr;have HG:=vJ Dn;have HL:Hid ((cB data).length=256):=(by show _=_;rw[CI,hx.2.1]);have HL1:Hid ((O Ad at_ :: cB data).length=257):=(by show _=_;rw[Ch,HL.out]);have h1c:∀ v∈(O Ad at_ :: cB data),v.oneCell'=AL:=X9 (at_,data);obtain⟨H1,XI⟩:=nm wr.heap.size;have hba:At wr.heap.size wr (wr.alloc (Ar (O Ad at_ :: cB data).toArray 130)):=(AM _ _).alloc (AB _) _;have hra:(wr.alloc (Ar (O Ad at_ :: cB data).toArray 130)).heap[H1]? =Z (Ar (O Ad at_ :: cB data).toArray 130 (0,0)):=(by rw[XI];exact Cu _ _);have HK:Hid (∀ m,Frm w ((wr.alloc (Ar (O Ad at_ :: cB data).toArray 130)).drewN m) bf bv):=fun m=>(HF.out.trans (Frm.of_below hba)).trans (Frm.of_below (hdr _ m))
    have HK0:Hid (Frm w (wr.alloc (Ar (O Ad at_ :: cB data).toArray 130)) bf bv):=HF.out.trans (Frm.of_below hba);have HRA:=vJ hra;have HBA:=vJ hba;have HH1:=vJ XI;clear hu hr hx Dn XW hra hba HU XI;cases tG:kp k
    . have HKP:=vJ tG
      go_wp2_with (first
       |(refine J4 _ rfl _ (by rfl) g (k*257) (O Ad at_ :: cB data) (by rfl) HR.out HL1.out ?_)
       |with_reducible refine I8 _ rfl rfl ?_
       |(refine Jc _ rfl _ _ (by rfl) _ 130 (O Ad 0 :: zB) (O Ad at_ :: cB data) (by rfl) (by rfl) (Cu _ _) (by rw[Ch,HZ.out]) HL1.out h1c ?_
         rw[Fk])
       |(go_at_call 152;refine(hk _ HK0.out k hlt).mono ?_;rintro e w2 ⟨rfl,m,rfl⟩;rw[HKP.out]))
      go_roundw
      case rel=>exact⟨k+1,by omega,by go_num,(by
       show DskAt _ B bp bf bv _ (Sk kp U F (k+1)) V U fu le dn
       rw[Sk,AE (by rw[HKP.out];decide)];exact HD.out.below (HBA.out.trans ((hdr _ m).mono HBA.out.size))),HK.out m⟩
      case measure=>simp[intOf];omega
    . have HKP:=vJ tG
      go_wp2_with (first
       |(refine J4 _ rfl _ (by rfl) g (k*257) (O Ad at_ :: cB data) (by rfl) HR.out HL1.out ?_)
       |with_reducible refine I8 _ rfl rfl ?_
       |(refine Jc _ rfl _ _ (by rfl) _ 130 (O Ad 0 :: zB) (O Ad at_ :: cB data) (by rfl) (by rfl) (Cu _ _) (by rw[Ch,HZ.out]) HL1.out h1c ?_
         rw[Fk])
       |(go_at_call 152;refine(hk _ HK0.out k hlt).mono ?_;rintro e w2 ⟨rfl,m,rfl⟩;rw[HKP.out]))
      obtain⟨W1,hW1⟩:=nm ((wr.alloc (Ar (O Ad at_ :: cB data).toArray 130)).drewN m);have hb1:At wr.heap.size wr W1:=(by rw[hW1];exact HBA.out.trans ((hdr _ m).mono HBA.out.size));have hf1:Frm w W1 bf bv:=(by rw[hW1];exact HK.out m);have hr1:W1.heap[H1]? =Z (Ar (O Ad at_ :: cB data).toArray 130 (0,0)):=(by rw[hW1];exact HRA.out);rw[<- hW1,<- HH1.out];clear hW1;have hD1:=HD.out.below hb1;have Vk:bp<H1/\bf<H1/\bv<H1:=by
       have e1:=(Al.1 HD.out.hp).1;have e2:=(Al.1 HD.out.hf).1;have e3:=(Al.1 HD.out.hv).1;have:=HH1.out;omega
      have hne:=HD.out.ne;have hln:(Sk kp U F k).length=F.length:=RD _ _ _ _;have sG:at_<(Sk kp U F k).length:=by rw[hln,HLen.out];exact HX.out.1
      obtain⟨NF,sH⟩:=nm ((Sk kp U F k).length);have c0:=hD1.c0;rw[<- sH] at c0 sG;have haF':(at_:Int)<(NF:Int):=(by omega);have r0:W1.cell? ⟨H1,0,J⟩=Z (O Ad at_):=(by rw[Az _ _ _ _ _ _ hr1];rfl);have rL:W1.rangeAt H1 1 (cB data):=EE hr1 (by simp);have tF:W1.there bf (at_*256) (cB data).length:=DX hD1.hf (by rw[HL.out,CK (EH hD1.okF)];omega);have lH:=Hd data;have rc:=Tryz.underlying126;have rk:(Ae.info? 126).map (·.size)=Z (cB data).length:=(by rw[QC,HL.out]);have hlen:=HL.out;obtain⟨hD2,aj⟩:=HD.out.setF (W:=W1.drew) (hb1.drew) at_ (by rw[<- sH];exact sG) data HX.out.2;have hf2:=(hf1.trans (Frm.of_below (hdr W1 1))).trans (Frm.of_wrote (g2:=bv) aj);have HD2:=vJ hD2;have HF2:=vJ hf2;have HW2:=vJ aj;have hS1:W1.drew.cell? ⟨bp,0,J⟩=Z (Ak (Z ⟨bf,0,J⟩) NF NF)/\W1.drew.cell? ⟨H1,0,J⟩=Z (O Ad at_)/\W1.drew.rangeAt H1 1 (cB data)/\W1.drew.there bf (at_*256) (cB data).length:=⟨c0,r0,rL,tF⟩;have hS2:(W1.drew.setCells bf (at_*256) (cB data)).cell? ⟨bp,0,J⟩=Z (Ak (Z ⟨bf,0,J⟩) NF NF)/\(W1.drew.setCells bf (at_*256) (cB data)).cell? ⟨H1,0,J⟩=Z (O Ad at_)/\(W1.drew.setCells bf (at_*256) (cB data)).rangeAt H1 1 (cB data)/\(W1.drew.setCells bf (at_*256) (cB data)).there bf (at_*256) (cB data).length:=
       ⟨by rw[CG _ _ _ _ _ (fun e=>absurd e hne.1)];exact c0,by rw[CG _ _ _ _ _ (fun e=>by have e:H1=bf:=e;omega)];exact r0,Hj hS1.2.2.1 _ _ _ (AN (by omega)),Y.there_setCells hS1.2.2.2 _ _ _⟩
      clear hD1 hb1 hf1 hr1 c0 r0 rL tF hD2 aj hf2 hln sH
      go_region_held (fun W=>W.cell? ⟨bp,0,J⟩=Z (Ak (Z ⟨bf,0,J⟩) NF NF)/\W.cell? ⟨H1,0,J⟩=Z (O Ad at_)/\W.rangeAt H1 1 (cB data)/\W.there bf (at_*256) (cB data).length) (first|exact hS1|exact hS2) (fail)
      clear hS1 hS2;go_wp2_with fail
      go_roundw
      case rel=>exact⟨k+1,by omega,by go_num,(by
       show DskAt _ B bp bf bv _ (Sk kp U F (k+1)) V U fu le dn
       rw[Sk,AC HKP.out,HG.out];exact HD2.out),HF2.out⟩
      case measure=>simp[intOf];omega
  . obtain rfl:k=U.length:=by omega
    have hge:¬ (U.length:Int)<(U.length:Int):=(by omega);have c2:=HD.out.c2;go_wp2_with fail
    obtain⟨F1,rl⟩:=nm (Sk kp U F U.length);have HF1:=vJ rl;have HDa:Hid (DskAt wr B bp bf bv (Ak ao U.length cap) F1 V U fu le dn):=(by rw[rl];exact HD);clear HD HD0 c2 rl hk hge XV hlt
    go_loopw [36] (fun i wq=>∃ k:Nat,k<=U.length/\i=O Ad k/\Hid (DskAt wq B bp bf bv (Ak ao U.length cap) F1 (Zx U F1 V k) U fu le dn)/\Hid (Frm w wq bf bv))
     (fun i _=>U.length-(intOf i).toNat)
    case atStart=>exact⟨0,by omega,rfl,HDa,HF⟩
    case round=>
     clear HDa HF;obtain⟨k,XV,rfl,HD,HF⟩:=hrel;by_cases hlt:k<U.length
     . have XH:(k:Int)<(U.length:Int):=by omega
       obtain⟨g,cap',hu,Ok,hr⟩:=HD.out.rangeU k hlt;obtain⟨rfl,rfl⟩:ao=Z ⟨g,0,J⟩/\cap'=cap:=⟨(A0 hu).1,(A0 hu).2.2.symm⟩;have hx:=HU.out U[k] (Bf _);have Dn:U.getD k (0,[])=U[k]:=(by rw[An,AS hlt];rfl);obtain⟨⟨at_,data⟩,XW⟩:∃ x,x=U[k]:=⟨_,rfl⟩;rw[<- XW] at hx hr Dn;have lI:F1.length=V.length:=(by have:=HD.out.len;rw[Io] at this;exact this);have sG:at_<F1.length:=by rw[lI];exact hx.1
       have hb:XR F1[at_]:=HD.out.okF _ (Bf _);have hgF:F1.getD at_ []=F1[at_]:=by rw[An,AS sG];rfl
       have hmem:=EE HD.out.hf (o:=at_*256) (vs:=cB F1[at_]) (by rw[CI,hb.1];exact Gw (EH HD.out.okF) at_ sG);obtain⟨b,hbe⟩:=nm (F1[at_]);rw[<- hbe] at hb hgF hmem;have HX:Hid (at_<V.length/\XR data):=hx;have HR:Hid (wr.rangeAt g (k*257) (O Ad at_ :: cB data)):=hr;have HG:=vJ Dn;have HB:=vJ hb;have HGF:=vJ hgF;have HMEM:=vJ hmem;have HL:Hid ((cB b).length=256):=(by show _=_;rw[CI,hb.1]);have HL1:Hid ((O Ad at_ :: cB data).length=257):=(by show _=_;rw[Ch,CI,hx.2.1]);have h1c:∀ v∈(O Ad at_ :: cB data),v.oneCell'=AL:=X9 (at_,data);obtain⟨H1,XI⟩:=nm wr.heap.size;obtain⟨W1,hW1⟩:=nm (wr.alloc (Ar (O Ad at_ :: cB data).toArray 130));have hb1:At wr.heap.size wr W1:=(by rw[hW1];exact(AM _ _).alloc (AB _) _);have hr1:W1.heap[H1]? =Z (Ar (O Ad at_ :: cB data).toArray 130 (0,0)):=(by rw[hW1,XI];exact Cu _ _);have hf1:=HF.out.trans (Frm.of_below hb1);have HW1:=vJ hW1;have HH1:=vJ XI;clear hu hr hx Dn XW XI hW1 hb hgF hmem hbe
       go_wp2_with (first
        |(refine J4 _ rfl _ (by rfl) g (k*257) (O Ad at_ :: cB data) (by rfl) HR.out HL1.out ?_)
        |with_reducible refine I8 _ rfl rfl ?_
        |(refine Jc _ rfl _ _ (by rfl) _ 130 (O Ad 0 :: zB) (O Ad at_ :: cB data) (by rfl) (by rfl) (Cu _ _) (by rw[Ch,HZ.out]) HL1.out h1c ?_
          rw[Fk]))
       rw[<- HW1.out,<- HH1.out];have hD1:=HD.out.below hb1;have Vk:bp<H1/\bf<H1/\bv<H1:=by
        have e1:=(Al.1 HD.out.hp).1;have e2:=(Al.1 HD.out.hf).1;have e3:=(Al.1 HD.out.hv).1;have:=HH1.out;omega
       have hne:=HD.out.ne;have haV:at_<(Zx U F1 V k).length:=by rw[Io];exact HX.out.1
       obtain⟨NF,sH⟩:=nm F1.length;obtain⟨NV,hNV⟩:=nm ((Zx U F1 V k).length);have c0:=hD1.c0;have c1:=hD1.c1;rw[<- sH] at c0 sG;rw[<- hNV] at c1 haV;have haF':(at_:Int)<(NF:Int):=(by omega);have haV':(at_:Int)<(NV:Int):=(by omega);have r0:W1.cell? ⟨H1,0,J⟩=Z (O Ad at_):=(by rw[Az _ _ _ _ _ _ hr1];rfl);have rF:W1.rangeAt bf (at_*256) (cB b):=by
        have:=HMEM.out;intro j v hj;rw[hb1.cell (p:=⟨bf,at_*256+j,J⟩) (by have:=HH1.out;show bf<_;omega)];exact this j v hj
       have tV:W1.there bv (at_*256) (cB b).length:=DX hD1.hv (by rw[HL.out,CK (EH hD1.okV)];omega);have lH:=Hd b;have rc:=Tryz.underlying126;have rk:(Ae.info? 126).map (·.size)=Z (cB b).length:=(by rw[QC,HL.out]);have hlen:=HL.out;obtain⟨hD2,aj⟩:=HD.out.setV (W:=W1.drew) (hb1.drew) at_ (by rw[<- hNV];exact haV) b HB.out;have hf2:=(hf1.trans (Frm.of_below (hdr W1 1))).trans (Frm.of_wrote2 (g1:=bf) aj);have HD2:=vJ hD2;have HF2:=vJ hf2;have hS1:W1.drew.cell? ⟨bp,0,J⟩=Z (Ak (Z ⟨bf,0,J⟩) NF NF)/\W1.drew.cell? ⟨bp,1,J⟩=Z (Ak (Z ⟨bv,0,J⟩) NV NV)/\W1.drew.cell? ⟨H1,0,J⟩=Z (O Ad at_)/\W1.drew.rangeAt bf (at_*256) (cB b)/\W1.drew.there bv (at_*256) (cB b).length:=⟨c0,c1,r0,rF,tV⟩;have hS2:(W1.drew.setCells bv (at_*256) (cB b)).cell? ⟨bp,0,J⟩=Z (Ak (Z ⟨bf,0,J⟩) NF NF)/\(W1.drew.setCells bv (at_*256) (cB b)).cell? ⟨bp,1,J⟩=Z (Ak (Z ⟨bv,0,J⟩) NV NV)/\(W1.drew.setCells bv (at_*256) (cB b)).cell? ⟨H1,0,J⟩=Z (O Ad at_)/\(W1.drew.setCells bv (at_*256) (cB b)).rangeAt bf (at_*256) (cB b)/\(W1.drew.setCells bv (at_*256) (cB b)).there bv (at_*256) (cB b).length:=
        ⟨by rw[CG _ _ _ _ _ (fun e=>absurd e hne.2.1)];exact c0,by rw[CG _ _ _ _ _ (fun e=>absurd e hne.2.1)];exact c1,by rw[CG _ _ _ _ _ (fun e=>by have e:H1=bv:=e;omega)];exact r0,Hj hS1.2.2.2.1 _ _ _ (AN hne.2.2),Y.there_setCells hS1.2.2.2.2 _ _ _⟩
       clear hD1 hb1 hf1 hr1 c0 c1 r0 rF tV hD2 aj hf2 sH hNV lI HU
       go_region_held (fun W=>W.cell? ⟨bp,0,J⟩=Z (Ak (Z ⟨bf,0,J⟩) NF NF)/\W.cell? ⟨bp,1,J⟩=Z (Ak (Z ⟨bv,0,J⟩) NV NV)/\W.cell? ⟨H1,0,J⟩=Z (O Ad at_)/\W.rangeAt bf (at_*256) (cB b)/\W.there bv (at_*256) (cB b).length) (first|exact hS1|exact hS2) (fail)
       clear hS1 hS2;go_wp2_with fail
       go_roundw
       case rel=>exact⟨k+1,by omega,by go_num,(by
        show DskAt _ B bp bf bv _ F1 (Zx U F1 V (k+1)) U fu le dn
        rw[Zx,HG.out,HGF.out];exact HD2.out),HF2.out⟩
       case measure=>simp[intOf];omega
     . obtain rfl:k=U.length:=by omega
       have hge:¬ (U.length:Int)<(U.length:Int):=(by omega);have c2:=HD.out.c2;have f2:=HD.out.fr 2;go_wp2_with fail
       go_end0
       refine⟨rfl,?_,(HF.out.below HbB.out.2.1 HbB.out.2.2 HBw.out).trans ((AM _ _).setCell HbB.out.1 _),Fr3.set HF.out bp 2 _⟩;rw[<- HF1.out];exact HD.out.noU
def cY(k:List Bool)(i:Nat):Bool:=if k.length=0 then AI else k.getD (i%k.length) AI
theorem Vy(w:Y)(i:Nat):AA Ae 152 #[O Ad i] w fun e w'=>e=Ag (A1 AL)/\∃ m,w'=w.drewN m:=by
 go_enter Tryz.func152,Tryz.ntmps152;go_wp2;go_ret;exact⟨rfl,0,rfl⟩
section
variable {w:Y}{B bp bf bv:Nat}{u:I}{F V:List (List Int)}{U:List (Nat × List Int)}{fu dn:Bool}{le:Int}
theorem DskAt.flags(h:DskAt w B bp bf bv u F V U fu le dn)(i:Nat)(x:I)(fu':Bool)(le':Int)(dn':Bool)
 (hs:(#[Ak (Z ⟨bf,0,J⟩) F.length F.length,Ak (Z ⟨bv,0,J⟩) V.length V.length,u,A1 fu,O Ad le,A1 dn]:Array I).setIfInBounds i x=#[Ak (Z ⟨bf,0,J⟩) F.length F.length,Ak (Z ⟨bv,0,J⟩) V.length V.length,u,A1 fu',O Ad le',A1 dn']):
 DskAt (w.setCell ⟨bp,i,J⟩ x) B bp bf bv u F V U fu' le' dn'/\At B w (w.setCell ⟨bp,i,J⟩ x):=by
 have oth:∀ {k:Nat},k≠bp->(w.setCell ⟨bp,i,J⟩ x).heap[k]? =w.heap[k]? :=fun hk=>Bq _ _ _ _ hk
 refine⟨⟨h.bB,h.ne,?_,?_,?_,⟨h.hu.1,?_⟩,h.une,h.okF,h.okV,h.okU,h.len,h.max⟩,(AM _ _).setCell h.bB.1 _⟩
 . have:=Bs w bp i _ _ x h.hp
   rw[hs] at this;exact this
 . rw[oth (CR h.ne.1)];exact h.hf
 . rw[oth (CR h.ne.2.1)];exact h.hv
 . rcases h.hu.2 with h0| ⟨g,cap,cur,hv,hg,hh,r⟩
   . exact AN h0
   . exact Ba ⟨g,cap,cur,hv,hg,by rw[oth (fun e=>h.une.1 (by rw[hv,<- e];rfl))];exact hh,r⟩
end
end
section
open Go.RowKit
def l4(fu:Bool)(le:Int)(dn:Bool):Bool:=!dn && (!fu || !decide (le=0))
def Zi(fu:Bool)(le:Int)(dn:Bool):Int:=if dn=AI/\fu=AL/\le≠0 then le-1 else le
def XS(fu:Bool)(le:Int)(dn:Bool):Bool:=dn || (fu && decide (le=0))
section
variable {w:Y}{B bp bf bv:Nat}{u:I}{F V:List (List Int)}{U:List (Nat × List Int)}{fu dn:Bool}{le:Int}
theorem JP(h:DskAt w B bp bf bv u F V U fu le dn)(h0:0<=le)(h1:le<=9223372036854775807):
 AA Ae 150 #[Am (Z ⟨bp,0,J⟩)] w fun e w'=>e=Ag (A1 (l4 fu le dn))/\DskAt w' B bp bf bv u F V U fu (Zi fu le dn) (XS fu le dn)/\Wrote w w' bp:=by
 have c3:=h.c3;have c4:=h.c4;have c5:=h.c5;have f4:=h.fr 4;have f5:=h.fr 5;cases dn
 . cases fu
   . have H:=vJ h
     clear h;go_enter Tryz.func150,Tryz.ntmps150;go_wp2;go_ret;exact⟨rfl,by simpa [Zi,XS] using H.out,Wrote.refl _ _⟩
   . by_cases hl:le=0
     . have H:=vJ ((h.flags 5 (A1 AL) AL le AL rfl).1)
       subst hl;clear h;go_enter Tryz.func150,Tryz.ntmps150;go_wp2;go_ret;exact⟨rfl,by simpa [Zi,XS] using H.out,Wrote.setCell _ _ _ _⟩
     . have H:=vJ ((h.flags 4 (O Ad (le-1)) AL (le-1) AI rfl).1)
       have hlb:(le==0)=AI:=by simpa using hl
       have HL:=vJ hl;clear h;go_enter Tryz.func150,Tryz.ntmps150;go_wp2;go_ret;have hl:=HL.out;exact⟨by simp[l4,hl],by simpa [Zi,XS,hl] using H.out,Wrote.setCell _ _ _ _⟩
 . have H:=vJ h
   clear h;go_enter Tryz.func150,Tryz.ntmps150;go_wp2;go_ret;exact⟨rfl,by simpa [Zi,XS] using H.out,Wrote.refl _ _⟩
theorem BSl.apartP(h:DskAt w B bp bf bv u F V U fu le dn){v:I}{l:List Int}(hv:BSl w v l){W:Y}(hw:Wrote w W bp):BSl W v l:=by
 refine⟨hv.1,?_⟩;rcases hv.2 with h0| ⟨a,cap,hva,Cm,hc⟩
 . exact AN h0
 . refine Ba ⟨a,cap,hva,Cm,fun j hj=>?_⟩
   obtain⟨h1,h2,h3⟩:=hc j hj;refine⟨by rw[hw.2.2.2.1];exact h1,h2,?_⟩;have hne:a.block≠bp:=fun e=>by
    rw[e,Az _ _ _ _ _ _ h.hp] at h3;obtain⟨ao,cu,hu⟩:=h.shapeU;rw[hu] at h3;have:a.off+j=0\/a.off+j=1\/a.off+j=2\/a.off+j=3\/a.off+j=4\/a.off+j=5\/6<=a.off+j:=(by omega);rcases this with e|e|e|e|e|e|e
    . rw[e] at h3;simp at h3
    . rw[e] at h3;simp at h3
    . rw[e] at h3;simp at h3
    . rw[e] at h3;simp at h3
    . rw[e] at h3;simp at h3
    . rw[e] at h3;simp at h3
    . rw[Array.getElem?_eq_none (by simpa using e)] at h3;cases h3
   rw[Bh (a:=⟨a.block,a.off+j,J⟩) (w:=w) (hw.2.2.2.2 _ hne)];exact h3
end
structure FrU (w W:Y) (bp bf bv:Nat) (u u':I):Prop where
 os:W.os=w.os
 tape:W.tape=w.tape
 output:W.output=w.output
 size:w.heap.size<=W.heap.size
 block:∀ k,k<w.heap.size->k≠bp->k≠bf->k≠bv->u.ownBlock≠Z k->W.heap[k]? =w.heap[k]?
 own:∀ k,u'.ownBlock=Z k->u.ownBlock=Z k\/w.heap.size<=k
theorem ZZ{w:Y}{B bp bf bv:Nat}{u:I}{F V:List (List Int)}{U:List (Nat × List Int)}{fu dn:Bool}{le:Int}(h:DskAt w B bp bf bv u F V U fu le dn)(h0:0<=le)(h1:le<=9223372036854775807)(n:Int){v:I}{l:List Int}(hv:BSl w v l)(hy:(0<=n/\n<V.length)/\l.length=256)(hp:l4 fu le dn=AI):
 AA Ae 149 #[Am (Z ⟨bp,0,J⟩),O Ad n,v] w fun e w'=>e=Ag (O Ad 2)/\DskAt w' B bp bf bv u F V U fu (Zi fu le dn) (XS fu le dn)/\Wrote w w' bp:=by
 have KP:=vJ (JP h h0 h1);have KF:=vJ (NX h n hv);rw[hp] at KP;rw[AF hy] at KF;clear h hv hy;go_enter Tryz.func149,Tryz.ntmps149
 go_wp2_with (first
  |(go_at_call 61;refine KF.out.mono ?_;rintro e w' ⟨rfl,rfl⟩)
  |(go_at_call 150;refine KP.out.mono ?_;rintro e w2 ⟨rfl,Vt,GN⟩))
 go_ret;exact⟨rfl,Vt,GN⟩
attribute [-go_sem] Instr.build Instr.buildSlice loadCellsFrom
theorem dX{w:Y}{B bp bf bv:Nat}{u:I}{F V:List (List Int)}{U:List (Nat × List Int)}{fu dn:Bool}{le:Int}(h:DskAt w B bp bf bv u F V U fu le dn)(h0:0<=le)(h1:le<=9223372036854775807)(hp:l4 fu le dn=AL)(n:Nat)(hn:n<V.length){v:I}{l:List Int}(hv:BSl w v l)(hl:l.length=256)(hU:U.length<=1000000):
 AA Ae 149 #[Am (Z ⟨bp,0,J⟩),O Ad n,v] w fun e w'=>e=Ag (O Ad 0)/\∃ u',DskAt w' B bp bf bv u' F (V.set n l) (U ++ [(n,l)]) fu (Zi fu le dn) (XS fu le dn)/\At B w w'/\FrU w w' bp bf bv u u':=by
 have KF:=vJ (NX h n hv);have KP:=vJ (JP h h0 h1);rw[hp] at KP;have HOLD:=vJ h;have HVOLD:=vJ (fun W (hw:Wrote w W bp)=>hv.apartP h hw);generalize Zi fu le dn=le' at KP |-
 generalize XS fu le dn=dn' at KP |-
 have rj:B<=w.heap.size:=by
  have h1:=(Al.1 h.hp).1;have:=h.bB;omega
 have hd:decide ((0<=(n:Int)/\(n:Int)<V.length)/\l.length=256)=AL:=AF ⟨by omega,hl⟩;have hn':(n:Int)<V.length:=by omega
 have HL:Hid ((cB l).length=256):=by show _=_;rw[CI,hl]
 have HB:Hid (XR l):=⟨hl,hv.1⟩;have HZ:=vJ Fw;have hone:∀ v∈zB,v.oneCell'=AL:=fun v hv=>by rw[BR hv];rfl
 have HH:=vJ hl;clear hl;go_enter Tryz.func149,Tryz.ntmps149
 go_wp2_with (first
  |(go_at_call 61;refine KF.out.mono ?_;rintro e w' ⟨rfl,rfl⟩;rw[hd])
  |(go_at_call 150;refine KP.out.mono ?_;rintro e w0 ⟨rfl,hd0,hw0⟩
    have HV0:=vJ (HVOLD.out _ hw0))
  |(go_at_call 62;refine(Nr HV0.out HH.out).mono ?_;rintro e w1 ⟨rfl,hb1⟩)
  |with_reducible refine GR _ rfl rfl ?_
  |(refine FQ _ rfl _ _ (by rfl) _ 126 zB (cB l) (by rfl) (by rfl) (Cu _ _) HZ.out HL.out (Hd l) ?_
    rw[Fk]))
 have HW0:=vJ hw0;have HBW:Hid (At B w w0):=vJ (hw0.below h.bB.1);have rj:B<=w0.heap.size:=AT rj HBW.out.size;clear h hv KF KP HOLD HVOLD hw0;have h:=hd0;have hv:=HV0.out;have hb2:At w0.heap.size w0 (w1.alloc (Ar (cB l).toArray 126)):=hb1.alloc hb1.size _;obtain⟨H1,XI⟩:=nm w1.heap.size;have hrow:(w1.alloc (Ar (cB l).toArray 126)).heap[H1]? =Z (Ar (cB l).toArray 126 (0,0)):=by rw[XI];exact Cu _ _
 rw[<- XI];have Vk:bp<H1/\bf<H1/\bv<H1:=by
  have h1:=(Al.1 h.hp).1;have h2:=(Al.1 h.hf).1;have h3:=(Al.1 h.hv).1;have:=hb1.size;omega
 have HH1:=vJ XI;clear XI;generalize w1.alloc (Ar (cB l).toArray 126)=W1 at hb2 hrow |-
 have h1:=h.below hb2;have rL:W1.rangeAt H1 0 (cB l):=EE hrow (by rw[CP,B8]);have tV:W1.there bv (n*256) (cB l).length:=DX h1.hv (by rw[HL.out,CK (EH h.okV)];omega);have c1:=h1.c1;have lH:=Hd l;have rc:=Tryz.underlying126;have rk:(Ae.info? 126).map (·.size)=Z (cB l).length:=by rw[QC,HL.out]
 have hlen:=HL.out;have H:=vJ h;have hS1:W1.drew.cell? ⟨bp,1,J⟩=Z (Ak (Z ⟨bv,0,J⟩) V.length V.length)/\W1.drew.rangeAt H1 0 (cB l)/\W1.drew.there bv (n*256) (cB l).length:=⟨c1,rL,tV⟩;have hS2:(W1.drew.setCells bv (n*256) (cB l)).cell? ⟨bp,1,J⟩=Z (Ak (Z ⟨bv,0,J⟩) V.length V.length)/\(W1.drew.setCells bv (n*256) (cB l)).rangeAt H1 0 (cB l)/\(W1.drew.setCells bv (n*256) (cB l)).there bv (n*256) (cB l).length:=
  ⟨by rw[CG _ _ _ _ _ (fun e=>absurd e h.ne.2.1)];exact c1,Hj hS1.2.1 _ _ _ (AN (by omega)),Y.there_setCells hS1.2.2 _ _ _⟩
 clear h1 hrow h hv
 go_region_held (fun W=>W.cell? ⟨bp,1,J⟩=Z (Ak (Z ⟨bv,0,J⟩) V.length V.length)/\W.rangeAt H1 0 (cB l)/\W.there bv (n*256) (cB l).length) (first|exact hS1|exact hS2) (fail)
 go_wp2_with fail
 obtain⟨h2,hwr⟩:=H.out.setV (W:=W1.drew) (hb2.drew) n hn l HB.out;have Mt:(W1.drew.setCells bv (n*256) (cB l)).rangeAt H1 0 (cB l):=hS2.2.1;have hb3:At B w0 (W1.drew.setCells bv (n*256) (cB l)):=((hb2.mono rj).drew).trans (hwr.below H.out.bB.2.2);have Pa:H1<(W1.drew.setCells bv (n*256) (cB l)).heap.size:=Y.block_lt_of_cell? _ _ (Mt 0 _ (AS (by omega)));have rn:∀ k,k<w0.heap.size->k≠bv->(W1.drew.setCells bv (n*256) (cB l)).heap[k]? =w0.heap[k]? :=fun k hk hne=>(hwr.2.2.2.2 k hne).trans ((hb2.drew).block k hk)
 generalize W1.drew.setCells bv (n*256) (cB l)=W2 at h2 Mt hb3 Pa rn |-
 clear hS1 hS2 rL tV c1 hwr hb2;have HFR2:=vJ rn;clear rn;have sI:B<=W2.heap.size:=AT rj hb3.size;obtain⟨i,hi1,Hc,ib,ai⟩:=By bH;have c2:=h2.c2;have fz:=h2.fr 2;have hbd:=fun W=>W8 W n l HH.out
 have hbs:=fun W=>Xt W (O Ad n :: cB l) (by rw[Ch,HL.out])
 have hown:=h2.hu;have oI:(O Ad n :: cB l).length=257:=by rw[Ch,HL.out]
 have rh:∀ v∈(O Ad n :: cB l),v.oneCell'=AL:=X9 (n,l);have hS1:W2.drew.rangeAt H1 0 (cB l):=Mt;have hbpH:bp≠H1:=by omega
 have huH:u.ownBlock≠Z H1:=fun e=>by have:=(H.out.hu.lt _ e).2;have:=hb1.size;have:=HH1.out;omega
 have hB2':=vJ sI;have rf:(I.agg (O Ad 0 :: zB).toArray).cells.size=257:=by show(O Ad 0 :: zB).toArray.size=257;simp[Fw]
 have hc3:∀ w3,((W2.alloc (Ar (O Ad n :: cB l).toArray 130)).drew).grownBy w3 u.ownBlock->w3.cell? ⟨bp,2,J⟩=Z u/\w3.frozen? ⟨bp,2,J⟩=AI:=fun w3 hg=>by
  have hlt:bp<W2.heap.size:=(Al.1 h2.hp).1;have XH:bp<((W2.alloc (Ar (O Ad n :: cB l).toArray 130)).drew).heap.size:=by simp;omega
  rw[hg.cell_far _ XH (CR h2.une.1),hg.frozen_far _ XH (CR h2.une.1)];exact⟨by rw[Y.cell?_drew,Df _ _ _ hlt];exact c2,by rw[Y.frozen?_drew,Y.frozen?_alloc_past _ _ _ hlt];exact fz⟩
 have ak:=fun w3 hgrow g cap TV Ha=>h2.pushU (W:=(W2.alloc (Ar (O Ad n :: cB l).toArray 130)).drew) (w3:=w3) (((AM _ _).alloc (AB _) _).drew) sI hgrow g cap (n,l) ⟨by rw[AJ];exact hn,HB.out⟩ TV Ha
 have hcl:(loadCellsFrom ⟨H1,0,J⟩ 0 256 #[]).run Ae W2.drew=.ok (cB l).toArray W2.drew:=by
  have:=run_loadCells_list (P:=Ae) W2.drew ⟨H1,0,J⟩ (cB l) (fun j v hv=>by rw[Addr.add_mid];exact hS1 j v hv);rw[HL.out] at this;exact this
 have hltbp:bp<W2.heap.size:=(Al.1 h2.hp).1;clear rc rk hlen
 go_region_law
  ((refine step_append_lies _ (by rfl) _ _ _ (by rfl) B 130 i _ 257 264 Tryz.underlying100 hi1 Hc ib ai rf (by omega) u U.length (U.flatMap cU) (by rfl) ((hown.alloc _).drew)
     ⟨W2.heap.size,0,J⟩ 1 1 (O Ad n :: cB l) (by rfl) oI (Y.news_of_block (cs:=(O Ad n :: cB l).toArray) (t:=130) (fr:=(0,0)) (Aw W2 _)) rh
     (by omega) (by simp only[maxLen];omega) (by omega) (AT sI (by simp)) (W2.heap.size+1) (by simp) ?_;intro gg cap w3 TV hgrow Ha hlt;obtain⟨c3,f3⟩:=hc3 w3 hgrow))
 all_goals
  obtain⟨cy,hb4⟩:=ak w3 hgrow gg cap TV (by simpa using Ha);clear ak hc3;go_wp2_with fail
  go_ret;have hbA:=(HBW.out.trans hb3).trans hb4;refine⟨rfl,_,cy,hbA,hbA.os,hbA.tape,hbA.output,hbA.size,fun k hk k1 k2 k3 k4=>?_,fun k hk=>?_⟩
  . have e0:k<w0.heap.size:=AH hk HBW.out.size
    have e1:k<W2.heap.size:=AH e0 hb3.size;have e2:k<((W2.alloc (Ar (O Ad n :: cB l).toArray 130)).drew).heap.size:=(by simp;omega);rw[Bq _ _ _ _ k1,hgrow.block k e2 (CR k4)];exact(((AM W2.heap.size W2).alloc (AB _) _).block k e1).trans ((HFR2.out k e0 k3).trans (HW0.out.2.2.2.2 k k1))
  . obtain rfl:gg=k:=by simpa [I.ownBlock] using hk
    rcases Ha with Ha|Ha
    . exact AN Ha
    . right
      have:=hb3.size;have:=HBW.out.size;omega
end
section
open Go.RowKit
def BBSl(w:Y)(v:I)(L:List (List Int)):Prop:=
 (v=Ak J 0 0/\L=[])\/∃ a cap,v=Ak (Z a) L.length cap/\L.length<=cap/\∀ j,j<L.length->a.block<w.heap.size/\a.spot=J/\
   ∃ u,w.cell? ⟨a.block,a.off+j,J⟩=Z u/\BSl w u (L.getD j [])
theorem BBSl.keep{w w':Y}{v:I}{L:List (List Int)}(h:BBSl w v L)(hs:w.heap.size<=w'.heap.size)(hb:∀ p:Addr,p.block<w.heap.size->w'.cell? p=w.cell? p):BBSl w' v L:=by
 rcases h with h| ⟨a,cap,hv,Cm,hc⟩
 . exact AN h
 . refine Ba ⟨a,cap,hv,Cm,fun j hj=>?_⟩
   obtain⟨h1,h2,u,h3,h4⟩:=hc j hj;exact⟨AH h1 hs,h2,u,by rw[hb _ (by exact h1),h3],h4.keep hs hb⟩
theorem BBSl.below{w w':Y}{v:I}{L:List (List Int)}(h:BBSl w v L)(hb:At w.heap.size w w'):BBSl w' v L:=
 h.keep hb.size fun _ hp=>hb.cell hp
theorem BBSl.open'{w:Y}{v:I}{L:List (List Int)}(h:BBSl w v L):∃ ao cap,v=Ak ao L.length cap/\L.length<=cap/\(0<L.length->∃ b off,ao=Z ⟨b,off,J⟩/\b<w.heap.size/\
 ∀ j,j<L.length->∃ u,w.cell? ⟨b,off+j,J⟩=Z u/\BSl w u (L.getD j [])):=by
 rcases h with⟨hv,hk⟩| ⟨⟨b,off,spot⟩,cap,hv,Cm,hc⟩
 . exact⟨J,0,by rw[hv,hk];rfl,by rw[hk];exact AB _,fun h=>by rw[hk] at h;simp at h⟩
 . refine⟨_,cap,hv,Cm,fun h0=>?_⟩
   obtain⟨h1,h2,_⟩:=hc 0 h0;obtain rfl:spot=J:=h2;exact⟨b,off,rfl,h1,fun j hj=>(hc j hj).2.2⟩
theorem BBSl.shape{w:Y}{v:I}{L:List (List Int)}(h:BBSl w v L):∃ ao cap,v=Ak ao L.length cap/\L.length<=cap:=by
 obtain⟨ao,cap,hv,hc,_⟩:=h.open';exact⟨ao,cap,hv,hc⟩
theorem BSl.one{w:Y}{v:I}{l:List Int}(h:BSl w v l):v.oneCell'=AL:=by
 obtain⟨ao,cap,rfl,_⟩:=h.shape;rfl
def BElt(w:Y)(B:Nat)(x:I)(l:List Int):Prop:=
 BSl w x l/\(0<l.length->∃ b off cap,x=Ak (Z ⟨b,off,J⟩) l.length cap/\b<w.heap.size/\(b<B\/∃ cur,w.heap[b]? =Z (Ar cur 5 (0,0))))
theorem BElt.grown{w w':Y}{B:Nat}{x:I}{l:List Int}(h:BElt w B x l){row:Option Nat}(hrow:∀ g,row=Z g->B<=g/\∃ cur,w.heap[g]? =Z (Ar cur 49 (0,0)))(hg:w.grownBy w' row):BElt w' B x l:=by
 by_cases h0:0<l.length
 . obtain⟨b,off,cap,rfl,hb,hor⟩:=h.2 h0
   have hne:Z b≠row:=fun e=>by
    obtain⟨h1,cur,h2⟩:=hrow b e.symm;rcases hor with h3| ⟨cur',h3⟩
    . omega
    . rw[h3] at h2
      injection h2 with h2
      injection h2 with _ h4
      exact absurd h4 (by decide)
   have ro:=hg.block b hb hne;refine⟨⟨h.1.1,?_⟩,fun _=>⟨b,off,cap,rfl,AH hb hg.size,hor.elim AN fun⟨cur,hc⟩=>Ba ⟨cur,by rw[ro];exact hc⟩⟩⟩;rcases h.1.2 with⟨hv,_⟩| ⟨a,cap',hv,Cm,hc⟩
   . simp at hv
   . obtain⟨rfl,rfl⟩:a=⟨b,off,J⟩/\cap=cap':=⟨(Bz (A0 hv).1).symm,(A0 hv).2.2⟩
     refine Ba ⟨_,cap,rfl,Cm,fun j hj=>?_⟩;obtain⟨h1,h2,h3⟩:=hc j hj;exact⟨AH h1 hg.size,rfl,by rw[Bh (a:=⟨b,off+j,J⟩) ro];exact h3⟩
 . obtain rfl:l=[]:=Bb (by omega)
   refine⟨⟨Gq,?_⟩,fun h=>absurd h h0⟩;rcases h.1.2 with h| ⟨a,cap,hv,Cm,_⟩
   . exact AN h
   . exact Ba ⟨a,cap,hv,Cm,fun j hj=>absurd hj (A8 _)⟩
theorem Sa{w w':Y}(h:At w.heap.size w w'):w.grownBy w' J:=⟨h.os,h.tape,h.output,h.size,fun k hk _=>h.block k hk⟩
theorem BElt.below{w w':Y}{B:Nat}{x:I}{l:List Int}(h:BElt w B x l)(hb:At w.heap.size w w'):BElt w' B x l:=
 h.grown (row:=J) (fun g e=>by cases e) (Sa hb)
theorem OB.elt{w:Y}{B B':Nat}{x:I}{l:List Int}(h:OB w B' x l):BElt w B x l:=by
 refine⟨h.bsl,fun h0=>?_⟩;rcases h.2.2 with⟨_,hl⟩| ⟨g,cap,cur,hv,_,hh,_⟩
 . omega
 . exact⟨g,0,cap,hv,(Al.1 hh).1,Ba ⟨cur,hh⟩⟩
def BBE(w:Y)(B:Nat)(v:I)(L:List (List Int)):Prop:=
 (v=Ak J 0 0/\L=[])\/∃ a cap,v=Ak (Z a) L.length cap/\L.length<=cap/\∀ j,j<L.length->a.block<w.heap.size/\a.spot=J/\
   ∃ u,w.cell? ⟨a.block,a.off+j,J⟩=Z u/\BElt w B u (L.getD j [])
theorem BBE.below{w w':Y}{B:Nat}{v:I}{L:List (List Int)}(h:BBE w B v L)(hb:At w.heap.size w w'):BBE w' B v L:=by
 rcases h with h| ⟨a,cap,hv,Cm,hc⟩
 . exact AN h
 . refine Ba ⟨a,cap,hv,Cm,fun j hj=>?_⟩
   obtain⟨h1,h2,u,h3,h4⟩:=hc j hj;exact⟨AH h1 hb.size,h2,u,by rw[hb.cell (p:=⟨a.block,a.off+j,J⟩) h1,h3],h4.below hb⟩
theorem BBE.sl{w:Y}{B:Nat}{v:I}{L:List (List Int)}(h:BBE w B v L):BBSl w v L:=by
 rcases h with h| ⟨a,cap,hv,Cm,hc⟩
 . exact AN h
 . refine Ba ⟨a,cap,hv,Cm,fun j hj=>?_⟩
   obtain⟨h1,h2,u,h3,h4⟩:=hc j hj;exact⟨h1,h2,u,h3,h4.1⟩
def BBR(w:Y)(B:Nat)(v:I)(L:List (List Int)):Prop:=
 ∃ vs:List I,vs.length=L.length/\(∀ j,j<L.length->BElt w B (vs.getD j undef) (L.getD j []))/\w.ownsRow B 49 1 v L.length vs
theorem BBR.be{w:Y}{B:Nat}{v:I}{L:List (List Int)}(h:BBR w B v L):BBE w B v L:=by
 obtain⟨vs,hl,hr,ho⟩:=h;rcases ho.2 with⟨hv,tH⟩| ⟨g,cap,cur,hv,hg,hh,Hn,LD,Hb,ht⟩
 . exact AN ⟨hv,Bb tH⟩
 . refine Ba ⟨_,cap,hv,Hn,fun j hj=>⟨(Al.1 hh).1,rfl,vs.getD j undef,?_,hr j hj⟩⟩
   show w.cell? ⟨g,0+j,J⟩=_
   rw[Bm,Az _ _ _ _ _ _ hh];have:(cur.toList.take (L.length*1))[j]? =vs[j]? :=(by rw[ht]);rw[AZ,AC (by omega)] at this
   simpa [show j<vs.length by omega] using this
theorem BBR.sl{w:Y}{B:Nat}{v:I}{L:List (List Int)}(h:BBR w B v L):BBSl w v L:=h.be.sl
theorem BBR.below{w w':Y}{B:Nat}{v:I}{L:List (List Int)}(h:BBR w B v L)(hb:At w.heap.size w w'):BBR w' B v L:=by
 obtain⟨vs,hl,hr,ho⟩:=h;refine⟨vs,hl,fun j hj=>(hr j hj).below hb,ho.1,?_⟩;rcases ho.2 with h| ⟨g,cap,cur,hv,hg,hh,r⟩
 . exact AN h
 . exact Ba ⟨g,cap,cur,hv,hg,by rw[hb.block g (Al.1 hh).1];exact hh,r⟩
theorem Sb:(Ae.info? 49).map (fun i=>(i.zero,i.size,i.bytes))=Z (Z (Ak J 0 0),1,24):=by kernel_rfl
theorem nz{w1:Y}{B:Nat}{x:I}{l:List Int}(hx:BElt w1 B x l)(hB:B<=w1.heap.size):
 BBR (w1.alloc (Ar #[x] 49)) B (Ak (Z ⟨w1.heap.size,0,J⟩) 1 1) [l]:=by
 refine⟨[x],rfl,fun j hj=>?_,rfl,Ba ⟨w1.heap.size,1,#[x],rfl,hB,Aw w1 _,AB _,by decide,rfl,rfl⟩⟩;obtain rfl:j=0:=by simpa using hj
 exact hx.below (Ay _ _)
def BB2(w:Y)(B E:Nat)(v:I)(L:List (List Int)):Prop:=
 ∃ vs:List I,vs.length=L.length/\(∀ j,j<L.length->BElt w E (vs.getD j undef) (L.getD j []))/\w.ownsRow B 49 1 v L.length vs
theorem BB2.lower{w:Y}{B B' E:Nat}{v:I}{L:List (List Int)}(h:BB2 w B E v L)(hB:B'<=B):BB2 w B' E v L:=by
 obtain⟨vs,hl,hr,ho⟩:=h;exact⟨vs,hl,hr,ho.1,ho.2.imp id fun⟨g,cap,cur,hv,hg,r⟩=>⟨g,cap,cur,hv,AT hB hg,r⟩⟩
theorem BB2.bbr{w:Y}{B:Nat}{v:I}{L:List (List Int)}(h:BB2 w B B v L):BBR w B v L:=h
theorem BBR.bb2{w:Y}{B:Nat}{v:I}{L:List (List Int)}(h:BBR w B v L):BB2 w B B v L:=h
theorem BB2.zero{w:Y}{B:Nat}{v:I}{L:List (List Int)}(h:BB2 w B 0 v L):BBR w 0 v L:=h.lower (AX _)
theorem BB2.below{w w':Y}{B E:Nat}{v:I}{L:List (List Int)}(h:BB2 w B E v L)(hb:At w.heap.size w w'):BB2 w' B E v L:=by
 obtain⟨vs,hl,hr,ho⟩:=h;refine⟨vs,hl,fun j hj=>(hr j hj).below hb,ho.1,?_⟩;rcases ho.2 with h| ⟨g,cap,cur,hv,hg,hh,r⟩
 . exact AN h
 . exact Ba ⟨g,cap,cur,hv,hg,by rw[hb.block g (Al.1 hh).1];exact hh,r⟩
theorem T4{w1:Y}{B E:Nat}{x:I}{l:List Int}(hx:BElt w1 E x l)(hB:B<=w1.heap.size):
 BB2 (w1.alloc (Ar #[x] 49)) B E (Ak (Z ⟨w1.heap.size,0,J⟩) 1 1) [l]:=by
 refine⟨[x],rfl,fun j hj=>?_,rfl,Ba ⟨w1.heap.size,1,#[x],rfl,hB,Aw w1 _,AB _,by decide,rfl,rfl⟩⟩;obtain rfl:j=0:=by simpa using hj
 exact hx.below (Ay _ _)
theorem Iy(S:TypeId)(hS:Ae.underlying S=Z (.slice 49))(w:Y)(B E:Nat)(pM:E<=B)(ty:TypeId)(v:I)(L:List (List Int))(hown:BB2 w B E v L)(u:I)(M:List (List Int))(hr:BBE w E u M)
 (hlen:L.length+M.length<=1000000) (hB:B<=w.heap.size):
 ∃ v' w',(Builtin.append_ #[S,S] ty #[v,u]).run Ae w=.ok v' w'/\BB2 w' B E v' (L ++ M)/\At B w w'/\w.grownBy w' v.ownBlock:=by
 obtain⟨t,h2,h3,h4,h5⟩:=By Sb;obtain⟨vs,tI,hve,ho⟩:=hown;rcases hr with⟨rfl,rfl⟩| ⟨⟨b,off,spot⟩,cap,rfl,Cm,hc⟩
 . have DY:=run_append_owned_none (P:=Ae) (w:=w) B S ty 49 t 1 hS h2 v L.length vs ho
   exact⟨v,w,DY,by rw[BB];exact⟨vs,tI,hve,ho⟩,AM _ _,Y.grownBy.refl w _⟩
 . have hex:∀ j,j<M.length->∃ x,w.cell? ⟨b,off+j,J⟩=Z x/\BElt w E x (M.getD j []):=fun j hj=>(hc j hj).2.2
   obtain⟨f,hf⟩:∃ f:Nat->I,∀ j,j<M.length->w.cell? ⟨b,off+j,J⟩=Z (f j)/\BElt w E (f j) (M.getD j []):=by
    refine⟨fun j=>if hj:j<M.length then (hex j hj).choose else undef,fun j hj=>?_⟩;simp only[hj,dif_pos];exact(hex j hj).choose_spec
   have XD:0<M.length->spot=J:=fun h0=>(hc 0 h0).2.1
   have CX:∀ j x,((Co M.length).map f)[j]? =Z x->w.cell? (Addr.add ⟨b,off,spot⟩ j)=Z x:=fun j x hj=>by
    have MY:j<M.length:=by simpa using (Bj.1 hj).1
    obtain rfl:=XD (by omega);rw[Cb,(hf j MY).1,<- hj];simp[MY]
   obtain⟨v',w',DY,h6,h7,_⟩:=run_append_own (P:=Ae) w B S ty 49 t _ 1 24 hS h2 h3 h4 h5 rfl (by decide) v L.length vs ho ⟨b,off,spot⟩ M.length cap ((Co M.length).map f) (by simp) CX (fun x hx=>by
    obtain⟨j,hj,rfl⟩:=Cq.1 hx;exact(hf j (Bo.1 hj)).2.1.one) (by simp only[maxLen];omega) (by omega) hB
   have hrow:∀ g,v.ownBlock=Z g->E<=g/\∃ cur,w.heap[g]? =Z (Ar cur 49 (0,0)):=fun g hg=>by
    rcases ho.2 with⟨rfl,_⟩| ⟨g',cap',cur,rfl,hg',hh,_⟩
    . simp[I.ownBlock] at hg
    . obtain rfl:g'=g:=by simpa [I.ownBlock] using hg
      exact⟨AT pM hg',cur,hh⟩
   refine⟨v',w',DY,⟨vs ++ (Co M.length).map f,by simp[tI],fun j hj=>?_,by rw[Ax];exact h6⟩,(AM _ _).grown h7 hB fun k hk=>(Ck ho k hk).1,h7⟩;rw[Ax] at hj;by_cases e:j<L.length
   . have:=(hve j e).grown hrow h7
     rw[An,An,BT (by omega),BT e,<- An,<- An];exact this
   . have pO:j-L.length<M.length:=by omega
     have:=(hf (j-L.length) pO).2.grown hrow h7;rw[An,An,BG (by omega),BG (by omega),tI];rw[An] at this
     simpa [pO] using this
theorem N4(S:TypeId)(hS:Ae.underlying S=Z (.slice 49))(w:Y){ops:Array BS}{rest:List BS}{o:BS}{a:Act}{Q:Exit->Act->Y->Prop}(Dn:o.guard=J)(s y:Operand)
 (ho:o.op=.call { callee:=.builtin .append,args:=#[s,y],argTypes:=#[S,S] })
 (B E:Nat) (pM:E<=B) (v:I) (L:List (List Int)) (hs:a.eval s=v) (hown:BB2 w B E v L) (u:I) (M:List (List Int)) (hy:a.eval y=u) (hr:BBE w E u M)
 (hlen:L.length+M.length<=1000000) (hB:B<=w.heap.size)
 (h:∀ v' w',BB2 w' B E v' (L ++ M)->At B w w'->Cn Ae ops Q rest (a.put o.dst v') w'):Cn Ae ops Q (o :: rest) a w:=by
 obtain⟨v',w',hr,h2,h3,_⟩:=Iy S hS w B E pM o.type v L hown u M hr hlen hB;refine CM Dn fun K hK=>?_
 unfold BS.wp execOp;simp only[ho,resolve,invoke,builtin,DE,Sem.run_pure,Result.andThen_ok,Jd,J5,Sd,hs,hy,hr];exact hK _ _ (h v' w' h2 h3)
theorem G0(S:TypeId)(hS:Ae.underlying S=Z (.slice 49))(w1:Y)(x:I)(l:List Int){ops:Array BS}{rest:List BS}{o:BS}{a:Act}{Q:Exit->Act->Y->Prop}(Dn:o.guard=J)(s y:Operand)
 (ho:o.op=.call { callee:=.builtin .append,args:=#[s,y],argTypes:=#[S,S] })
 (B E:Nat) (pM:E<=B) (v:I) (L:List (List Int)) (hs:a.eval s=v) (hown:BB2 w1 B E v L) (hx:BElt w1 E x l) (q:Nat) (hy:a.eval y=Ak (Z ⟨q,0,J⟩) 1 1) (hq:q=w1.heap.size) (hlen:L.length<=100000) (hB:B<=w1.heap.size)
 (h:∀ v' w',BB2 w' B E v' (L ++ [l])->At B w1 w'->Cn Ae ops Q rest (a.put o.dst v') w'):Cn Ae ops Q (o :: rest) a (w1.alloc (Ar #[x] 49)):=by
 subst hq;have hbel:At w1.heap.size w1 (w1.alloc (Ar #[x] 49)):=Ay _ _;have h1:BBE (w1.alloc (Ar #[x] 49)) E (Ak (Z ⟨w1.heap.size,0,J⟩) 1 1) [l]:=(nz hx (B:=E) (AT pM hB)).be;refine N4 S hS _ Dn s y ho B E pM v L hs (hown.below hbel) _ [l] hy h1 (by simp;omega) (by simp;omega) fun v' w' h1 h2=>?_
 exact h v' w' h1 ((hbel.mono hB).trans h2)
def ISl(w:Y)(v:I)(l:List Int):Prop:=
 (v=Ak J 0 0/\l=[])\/∃ a cap,v=Ak (Z a) l.length cap/\∀ j,j<l.length->a.block<w.heap.size/\a.spot=J/\w.cell? ⟨a.block,a.off+j,J⟩=Z (O Ad (l.getD j 0))
theorem ISl.below{w w':Y}{v:I}{l:List Int}(h:ISl w v l)(hb:At w.heap.size w w'):ISl w' v l:=by
 rcases h with h| ⟨a,cap,hv,hc⟩
 . exact AN h
 . refine Ba ⟨a,cap,hv,fun j hj=>?_⟩
   obtain⟨h1,h2,h3⟩:=hc j hj;exact⟨AH h1 hb.size,h2,by rw[hb.cell (p:=⟨a.block,a.off+j,J⟩) h1,h3]⟩
theorem ISl.open'{w:Y}{v:I}{l:List Int}(h:ISl w v l):∃ ao cap,v=Ak ao l.length cap/\(0<l.length->∃ b off,ao=Z ⟨b,off,J⟩/\b<w.heap.size/\
 ∀ j,j<l.length->w.cell? ⟨b,off+j,J⟩=Z (O Ad (l.getD j 0))):=by
 rcases h with⟨hv,hk⟩| ⟨⟨b,off,spot⟩,cap,hv,hc⟩
 . exact⟨J,0,by rw[hv,hk];rfl,fun h=>by rw[hk] at h;simp at h⟩
 . refine⟨_,cap,hv,fun h0=>?_⟩
   obtain⟨h1,h2,_⟩:=hc 0 h0;obtain rfl:spot=J:=h2;exact⟨b,off,rfl,h1,fun j hj=>(hc j hj).2.2⟩
theorem ISl.at{w:Y}{v:I}{l:List Int}(h:ISl w v l)(h0:0<l.length):∃ b off cap,v=Ak (Z ⟨b,off,J⟩) l.length cap/\b<w.heap.size/\
 ∀ j,j<l.length->w.cell? ⟨b,off+j,J⟩=Z (O Ad (l.getD j 0)):=by
 obtain⟨ao,cap,hv,hc⟩:=h.open';obtain⟨b,off,rfl,h1,h2⟩:=hc h0;exact⟨b,off,cap,hv,h1,h2⟩
theorem ISl.shape{w:Y}{v:I}{l:List Int}(h:ISl w v l):∃ ao cap,v=Ak ao l.length cap:=by
 obtain⟨ao,cap,hv,_⟩:=h.open';exact⟨ao,cap,hv⟩
def iC(l:List Int):List I:=l.map (O Ad)
theorem Cx(l:List Int):(iC l).length=l.length:=Bk _
theorem QS(l:List Int):∀ v∈iC l,v.oneCell'=AL:=fun v hv=>by
 obtain⟨x,_,rfl⟩:=Cq.1 hv;rfl
def iO(l:List Int)(T:TypeId):Obj:=Ar (iC l).toArray T (0,0)
theorem GC{W:Y}{g:Nat}{l:List Int}{T:TypeId}(h:W.heap[g]? =Z (iO l T))(k:Nat)(hk:k<l.length):W.cell? ⟨g,k,J⟩=Z (O Ad (l.getD k 0)):=by
 rw[Az _ _ _ _ _ _ h];simp[iC,hk]
theorem Qm{W:Y}{g:Nat}{l:List Int}{T:TypeId}(h:W.heap[g]? =Z (iO l T))(k:Nat):W.frozen? ⟨g,k,J⟩=AI:=by
 simp[Y.frozen?,h,iO]
theorem Vb{W:Y}{g:Nat}{l:List Int}{T:TypeId}(h:W.heap[g]? =Z (iO l T))(j:Nat)(y:Int):(W.setCell ⟨g,j,J⟩ (O Ad y)).heap[g]? =Z (iO (l.set j y) T):=by
 rw[Bs W g j _ _ _ h];simp[iO,iC]
theorem FN{W:Y}{g:Nat}{l:List Int}{T:TypeId}(h:W.heap[g]? =Z (iO l T)):W.rangeAt g 0 (iC l):=
 EE h (by rw[CP,B8])
def IR(w:Y)(B:Nat)(v:I)(l:List Int):Prop:=w.ownsRow B 3 1 v l.length (iC l)
theorem IR.sl{w:Y}{B:Nat}{v:I}{l:List Int}(h:IR w B v l):ISl w v l:=by
 rcases h.2 with⟨hv,hl⟩| ⟨g,cap,cur,hv,hg,hh,Hn,LD,Hb,ht⟩
 . exact AN ⟨hv,Bb hl⟩
 . refine Ba ⟨_,cap,hv,fun j hj=>⟨(Al.1 hh).1,rfl,?_⟩⟩
   show w.cell? ⟨g,0+j,J⟩=_
   rw[Bm,Az _ _ _ _ _ _ hh];have:(cur.toList.take (l.length*1))[j]? =(iC l)[j]? :=(by rw[ht]);rw[AZ,AC (by omega)] at this
   simpa [iC,hj] using this
theorem IR.below{w w':Y}{B:Nat}{v:I}{l:List Int}(h:IR w B v l)(hb:At w.heap.size w w'):IR w' B v l:=by
 refine⟨h.1,?_⟩;rcases h.2 with h| ⟨g,cap,cur,hv,hg,hh,r⟩
 . exact AN h
 . exact Ba ⟨g,cap,cur,hv,hg,by rw[hb.block g (Al.1 hh).1];exact hh,r⟩
theorem IR.of_row{w:Y}{B g:Nat}{l:List Int}(hB:B<=g)(hg:w.heap[g]? =Z (iO l 3))(hm:l.length<=maxLen):
 IR w B (Ak (Z ⟨g,0,J⟩) l.length l.length) l:=by
 refine⟨by simp[iC],Ba ⟨g,l.length,_,rfl,hB,hg,AB _,hm,by simp[iC],?_⟩⟩;rw[AV (by simp[iC])]
theorem Uy:(Ae.info? 3).map (fun i=>(i.zero,i.size,i.bytes))=Z (Z (O Ad 0),1,8):=by kernel_rfl
theorem Xv(n:Nat):madeCells (O Ad 0).cells n=(iC (AD n 0)).toArray:=by
 apply Array.ext';rw[show(O Ad 0).cells=#[O Ad 0] from rfl,toList_madeCells_one];simp[iC]
theorem Kb(w:Y){ops:Array BS}{rest:List BS}{o:BS}{a:Act}{Q:Exit->Act->Y->Prop}
 (hg:o.guard=J) (l c:Operand) (Mr:o.op=Op.makeSlice 175 l c) (C:Int) (n:Nat) (hl:a.eval l=O Ad C) (hc:a.eval c=O Ad C) (hC:C=n) (hn:n<=1000000)
 (hK:Cn Ae ops Q rest (a.put o.dst (Ak (Z ⟨w.heap.size,0,J⟩) n n)) (w.alloc (iO (AD n 0) 3))):
 Cn Ae ops Q (o :: rest) a w:=by
 refine CM hg fun K hK'=>?_
 obtain⟨i,h2,h3,h4,h5⟩:=By Uy;subst hC;have DY:=run_make (P:=Ae) w 175 3 i (O Ad 0) Tryz.underlying175 h2 h3 Ad Ad n n (by omega) (by omega) (by rw[h5];omega) (by omega);unfold BS.wp;simp only[B5,h4,Nat.mul_one,Xv] at DY;simp[execOp,Mr,hl,hc,DY,Result.andThen];exact hK' _ _ hK
section
variable {α:Type}{f:α->List I}{s:Nat}
theorem Ry{w:Y}{g k:Nat}{t:TypeId}{L:List α}(hg:w.heap[g]? =Z (Ar (L.flatMap f).toArray t (0,0)))(hf:∀ x∈L,(f x).length=s)(hk:k<L.length):w.rangeAt g (k*s) (f L[k]):=by
 refine EE hg ?_;rw[hf _ (Bf hk)];exact Gw hf k hk
theorem Fh{ops:Array BS}{rest:List BS}{op:BS}{a:Act}{w:Y}{Q:Exit->Act->Y->Prop}(Dn:op.guard=J)(T:TypeId)(x y:Operand)(ho:op.op=.store T x y)
 (hs:(Ae.info? T).map (·.size)=Z s) (g k:Nat) (L:List α) (z:α) (t:TypeId) (hx:a.eval x=Am (Z ⟨g,k*s,J⟩)) (hy:a.eval y=BD (f z).toArray)
 (hg:w.heap[g]? =Z (Ar (L.flatMap f).toArray t (0,0))) (hk:k<L.length) (hf:∀ x∈L,(f x).length=s) (hz:(f z).length=s) (h1:∀ v∈f z,v.oneCell'=AL)
 (h:∀ w',Wrote w w' g->w'.heap[g]? =Z (Ar ((L.set k z).flatMap f).toArray t (0,0))->Cn Ae ops Q rest (a.put op.dst undef) w'):Cn Ae ops Q (op :: rest) a w:=by
 have Mi:k*s+s<=L.length*s:=by
  have:=Nat.mul_le_mul_right s (show k+1<=L.length from hk);rw[Nat.succ_mul] at this;omega
 have hl:k*s+(f z).length<=(L.flatMap f).length:=by rw[CK hf,hz];exact Mi
 refine wpList_store_mid Dn T x y ho g (k*s) (f z).toArray hx hy (DX hg (by simpa using hl)) (by rw[hs];simp[hz]) (Dv h1) ?_;have e:=DH hg hl h1;rw[show(f z).toArray.toList=f z from rfl,e];refine h _ (Wrote.setRow _ _ _) ?_;rw[Cr _ _ _ _ _ _ hg,G4 hf k hk z hz]
end
theorem BK{ops:Array BS}{rest:List BS}{op:BS}{a:Act}{w:Y}{Q:Exit->Act->Y->Prop}(Dn:op.guard=J)(T:TypeId)(x:Operand)(ho:op.op=.load T x)
 (b o:Nat) (hx:a.eval x=Am (Z ⟨b,o,J⟩)) (l:List Int) (d:TypeDesc) (hc:w.rangeAt b o (iC l))
 (hu:Ae.underlying T=Z d) (hd:d.isRow=AL) (hi:(Ae.info? T).map (·.size)=Z l.length)
 (h:Cn Ae ops Q rest (a.put op.dst (BD (iC l).toArray)) w):Cn Ae ops Q (op :: rest) a w:=
 wpList_load_mid Dn T x ho b o hx (iC l) d hc hu hd (by rw[hi,Cx]) h
theorem OI{w w':Y}{b o:Nat}{cs:List I}(h:w.rangeAt b o cs)(hb:At w.heap.size w w')(hl:b<w.heap.size):w'.rangeAt b o cs:=fun j v hv=>by
 rw[hb.cell (p:=⟨b,o+j,J⟩) hl];exact h j v hv
def KeptG(w w':Y)(g:Nat):Prop:=w'.os=w.os/\w'.tape=w.tape/\w'.output=w.output/\w.heap.size<=w'.heap.size/\∀ k,k<w.heap.size->k≠g->w'.heap[k]? =w.heap[k]?
theorem KeptG.refl(w:Y)(g:Nat):KeptG w w g:=⟨rfl,rfl,rfl,AB _,fun _ _ _=>rfl⟩
theorem KeptG.then{w w' w'':Y}{g:Nat}(h:KeptG w w' g)(hb:At w'.heap.size w' w''):KeptG w w'' g:=
 ⟨hb.os.trans h.1,hb.tape.trans h.2.1,hb.output.trans h.2.2.1,AT h.2.2.2.1 hb.size,fun k hk hne=>by rw[hb.block k (AH hk h.2.2.2.1)];exact h.2.2.2.2 k hk hne⟩
theorem KeptG.wrote{w w' w'':Y}{g:Nat}(h:KeptG w w' g)(hb:Wrote w' w'' g):KeptG w w'' g:=
 ⟨hb.1.trans h.1,hb.2.1.trans h.2.1,hb.2.2.1.trans h.2.2.1,by rw[hb.2.2.2.1];exact h.2.2.2.1,fun k hk hne=>by rw[hb.2.2.2.2 k hne];exact h.2.2.2.2 k hk hne⟩
theorem KeptG.below{w w':Y}{g B:Nat}(h:KeptG w w' g)(hB:B<=g)(hw:B<=w.heap.size):At B w w':=
 ⟨h.1,h.2.1,h.2.2.1,h.2.2.2.1,fun k hk=>h.2.2.2.2 k (AH hk hw) (by omega)⟩
structure Chg (P P':Nat->Prop) (w w':Y):Prop where
 os:w'.os=w.os
 tape:w'.tape=w.tape
 output:w'.output=w.output
 size:w.heap.size<=w'.heap.size
 keep:∀ k,k<w.heap.size->¬ P k->w'.heap[k]? =w.heap[k]? /\¬ P' k
theorem Chg.refl(P:Nat->Prop)(w:Y):Chg P P w w:=⟨rfl,rfl,rfl,AB _,fun _ _ h=>⟨rfl,h⟩⟩
theorem Chg.trans{P P' P'':Nat->Prop}{a b c:Y}(h:Chg P P' a b)(k:Chg P' P'' b c):Chg P P'' a c:=
 ⟨k.os.trans h.os,k.tape.trans h.tape,k.output.trans h.output,AT h.size k.size,fun i hi hn=>by
   obtain⟨h1,h2⟩:=h.keep i hi hn;obtain⟨h3,h4⟩:=k.keep i (AH hi h.size) h2;exact⟨h3.trans h1,h4⟩⟩
theorem Chg.of_below{P:Nat->Prop}{w w':Y}(h:At w.heap.size w w'):Chg P P w w':=⟨h.os,h.tape,h.output,h.size,fun k hk hn=>⟨h.block k hk,hn⟩⟩
theorem Chg.below{P P':Nat->Prop}{w w':Y}(h:Chg P P' w w'){B:Nat}(hB:∀ k,k<B->k<w.heap.size/\¬ P k):At B w w':=
 ⟨h.os,h.tape,h.output,h.size,fun k hk=>(h.keep k (hB k hk).1 (hB k hk).2).1⟩
def Apt(P:Nat->Prop)(v:I):Prop:=∀ ad n cap,v=Ak (Z ad) n cap->0<n->¬ P ad.block
theorem Apt.nil(P:Nat->Prop):Apt P (Ak J 0 0):=fun ad n cap h=>by cases h
theorem Apt.new{P:Nat->Prop}{g off n cap:Nat}(h:¬ P g):Apt P (Ak (Z ⟨g,off,J⟩) n cap):=fun ad n' cap' e _=>by
 obtain rfl:=Bz (A0 e).1;exact h
theorem BSl.chg{P P':Nat->Prop}{w w':Y}{v:I}{l:List Int}(h:BSl w v l)(ha:Apt P v)(hc:Chg P P' w w'):BSl w' v l/\Apt P' v:=by
 rcases h.2 with⟨hv,hl⟩| ⟨a,cap,hv,Cm,CX⟩
 . exact⟨⟨h.1,AN ⟨hv,hl⟩⟩,by rw[hv];exact Apt.nil _⟩
 . refine⟨⟨h.1,Ba ⟨a,cap,hv,Cm,fun j hj=>?_⟩⟩,fun ad n cap' e hn=>?_⟩
   . obtain⟨h1,h2,h3⟩:=CX j hj
     have hk:=hc.keep a.block h1 (ha _ _ _ hv (by omega));exact⟨AH h1 hc.size,h2,by rw[Bh (a:=⟨a.block,a.off+j,J⟩) (w:=w) hk.1];exact h3⟩
   . obtain⟨rfl,rfl⟩:ad=a/\n=l.length:=by
      rw[hv] at e;exact⟨(Bz (A0 e).1).symm,(A0 e).2.1.symm⟩
     exact(hc.keep ad.block (CX 0 hn).1 (ha _ _ _ hv hn)).2
theorem ISl.chg{P P':Nat->Prop}{w w':Y}{v:I}{l:List Int}(h:ISl w v l)(ha:Apt P v)(hc:Chg P P' w w'):ISl w' v l/\Apt P' v:=by
 rcases h with⟨hv,hl⟩| ⟨a,cap,hv,CX⟩
 . exact⟨AN ⟨hv,hl⟩,by rw[hv];exact Apt.nil _⟩
 . refine⟨Ba ⟨a,cap,hv,fun j hj=>?_⟩,fun ad n cap' e hn=>?_⟩
   . obtain⟨h1,h2,h3⟩:=CX j hj
     have hk:=hc.keep a.block h1 (ha _ _ _ hv (by omega));exact⟨AH h1 hc.size,h2,by rw[Bh (a:=⟨a.block,a.off+j,J⟩) (w:=w) hk.1];exact h3⟩
   . obtain⟨rfl,rfl⟩:ad=a/\n=l.length:=by
      rw[hv] at e;exact⟨(Bz (A0 e).1).symm,(A0 e).2.1.symm⟩
     exact(hc.keep ad.block (CX 0 hn).1 (ha _ _ _ hv hn)).2
def BBa(w:Y)(P:Nat->Prop)(v:I)(L:List (List Int)):Prop:=
 (v=Ak J 0 0/\L=[])\/∃ a cap,v=Ak (Z a) L.length cap/\L.length<=cap/\∀ j,j<L.length->(a.block<w.heap.size/\¬ P a.block)/\a.spot=J/\
   ∃ u,w.cell? ⟨a.block,a.off+j,J⟩=Z u/\BSl w u (L.getD j [])/\Apt P u
theorem BBa.sl{w:Y}{P:Nat->Prop}{v:I}{L:List (List Int)}(h:BBa w P v L):BBSl w v L:=by
 rcases h with h| ⟨a,cap,hv,Cm,hc⟩
 . exact AN h
 . refine Ba ⟨a,cap,hv,Cm,fun j hj=>?_⟩
   obtain⟨h1,h2,u,h3,h4,_⟩:=hc j hj;exact⟨h1.1,h2,u,h3,h4⟩
theorem BBa.chg{P P':Nat->Prop}{w w':Y}{v:I}{L:List (List Int)}(h:BBa w P v L)(hc:Chg P P' w w'):BBa w' P' v L:=by
 rcases h with h| ⟨a,cap,hv,Cm,CX⟩
 . exact AN h
 . refine Ba ⟨a,cap,hv,Cm,fun j hj=>?_⟩
   obtain⟨⟨h1,h1'⟩,h2,u,h3,h4,h5⟩:=CX j hj;obtain⟨k1,k2⟩:=hc.keep a.block h1 h1';obtain⟨m1,m2⟩:=h4.chg h5 hc;exact⟨⟨AH h1 hc.size,k2⟩,h2,u,by rw[Bh (a:=⟨a.block,a.off+j,J⟩) (w:=w) k1];exact h3,m1,m2⟩
theorem BBa.nil(w:Y)(P:Nat->Prop):BBa w P (Ak J 0 0) []:=AN ⟨rfl,rfl⟩
def Cf(U:List (Nat × List Int))(F:List (List Int)):List (List Int):=U.foldl (fun f x=>f.set x.1 x.2) F
theorem Po(U W:List (Nat × List Int))(F:List (List Int)):Cf (U ++ W) F=Cf W (Cf U F):=List.foldl_append
theorem cX(U:List (Nat × List Int))(x:Nat × List Int)(F:List (List Int)):Cf (U ++ [x]) F=(Cf U F).set x.1 x.2:=Po _ _ _
theorem B6:∀ (U:List (Nat × List Int)) (F:List (List Int)),(Cf U F).length=F.length
 |[],F=>rfl
 |x :: U,F=>by
  show(Cf U (F.set x.1 x.2)).length=_
  rw[B6 U,AJ]
theorem Dp:∀ (U:List (Nat × List Int)) (F:List (List Int)) (i:Nat),(∀ x∈U,x.1≠i)->(Cf U F).getD i []=F.getD i []
 |[],F,i,_=>rfl
 |x :: U,F,i,h=>by
  show(Cf U (F.set x.1 x.2)).getD i []=_
  rw[Dp U _ i fun y hy=>h y (CC _ hy),An,Bw (h x (B7 ..)),<- An]
def Ea(kp:Nat->Bool)(U:List (Nat × List Int)):List (Nat × List Int):=((Co U.length).filter kp).map fun i=>U.getD i (0,[])
theorem RQ(kp:Nat->Bool)(U:List (Nat × List Int))(F:List (List Int)):∀ k,Sk kp U F k=Cf (((Co k).filter kp).map fun i=>U.getD i (0,[])) F
 |0=>rfl
 |k+1=>by
  unfold Sk;rw[Hi,List.filter_append,Cv,Po,<- RQ kp U F k];cases hk:kp k
  . simp[hk,Cf]
  . simp[hk,Cf]
theorem TM(U:List (Nat × List Int)):Ea (fun _=>AL) U=U:=by
 unfold Ea;rw[List.filter_eq_self.2 (fun _ _=>rfl)];apply Bi
 . simp
 . intro i h1 h2
   simp[h2]
theorem Ic{kp:Nat->Bool}{U:List (Nat × List Int)}{x:Nat × List Int}(h:x∈Ea kp U):x∈U:=by
 obtain⟨i,hi,rfl⟩:=Cq.1 h;have hl:i<U.length:=Bo.1 (List.mem_filter.1 hi).1;rw[An,AS hl];exact Bf hl
theorem nH(U:List (Nat × List Int))(F:List (List Int)):Sk (fun _=>AL) U F U.length=Cf U F:=by
 rw[RQ];have:=TM U;unfold Ea at this;rw[this]
theorem aZ(U:List (Nat × List Int))(F1 V:List (List Int))(hl:F1.length=V.length)(i:Nat):∀ m,(Zx U F1 V m).getD i []=if (∃ j,j<m/\(U.getD j (0,[])).1=i) then F1.getD i [] else V.getD i []
 |0=>by
  rw[AE (by rintro⟨j,hj,_⟩;omega)];rfl
 |m+1=>by
  have ih:=aZ U F1 V hl i m;have hlen:=Io U F1 V m;unfold Zx;by_cases e:(U.getD m (0,[])).1=i
  . rw[AC ⟨m,by omega,e⟩,e]
    by_cases hi:i<V.length
    . simp[hlen,hi]
    . rw[An,A5 (by rw[AJ];omega),An,A5 (by omega)]
  . rw[An,Bw e,<- An,ih]
    by_cases h:∃ j,j<m/\(U.getD j (0,[])).1=i
    . obtain⟨j,hj,cD⟩:=h
      rw[AC ⟨j,hj,cD⟩,AC ⟨j,by omega,cD⟩]
    . rw[AE h,AE]
      rintro⟨j,hj,cD⟩;by_cases ejm:j=m
      . subst ejm;exact e cD
      . exact h ⟨j,by omega,cD⟩
theorem qW(kp:Nat->Bool)(U:List (Nat × List Int))(F:List (List Int)):Zx U (Sk kp U F U.length) (Cf U F) U.length=Cf (Ea kp U) F:=by
 have e1:Sk kp U F U.length=Cf (Ea kp U) F:=RQ kp U F _;have hl:(Cf (Ea kp U) F).length=(Cf U F).length:=by rw[B6,B6]
 rw[e1];apply Bi
 . rw[Io,hl]
 . intro i h1 h2
   have:=aZ U (Cf (Ea kp U) F) (Cf U F) hl i U.length;have g1:(Zx U (Cf (Ea kp U) F) (Cf U F) U.length).getD i []=(Zx U (Cf (Ea kp U) F) (Cf U F) U.length)[i]:=(by simp[h1]);have g2:(Cf (Ea kp U) F).getD i []=(Cf (Ea kp U) F)[i]:=(by simp[h2]);rw[<- g1,this,<- g2];split
   . rfl
   . rename_i C6
     have hU:∀ x∈U,x.1≠i:=fun x hx e=>by
      obtain⟨j,hj,rfl⟩:=BW hx;exact C6 ⟨j,hj,by rw[An,AS hj];exact e⟩
     rw[Dp U F i hU,Dp _ F i fun x hx=>hU x (Ic hx)]
structure DS where
 F:List (List Int)
 U:List (Nat × List Int)
 fu:Bool
 le:Int
 dn:Bool
def DS.vis(s:DS):List (List Int):=Cf s.U s.F
def DS.ok(s:DS):Bool:=l4 s.fu s.le s.dn
def DS.pay(s:DS):DS:={ s with le:=Zi s.fu s.le s.dn,dn:=XS s.fu s.le s.dn }
def DS.write(s:DS)(n:Nat)(l:List Int):DS:={ s.pay with U:=s.U ++ [(n,l)] }
def DS.flush(s:DS):DS:={ s.pay with F:=s.vis,U:=[] }
def DS.crash(s:DS)(k:List Bool):DS:=⟨Cf (Ea (cY k) s.U) s.F,[],AI,0,AI⟩
def DS.new(n:Nat):DS:=⟨AD n zb,[],AI,0,AI⟩
theorem DS.vis_length(s:DS):s.vis.length=s.F.length:=B6 _ _
theorem DS.write_vis(s:DS)(n:Nat)(l:List Int):(s.write n l).vis=s.vis.set n l:=cX _ _ _
theorem DS.flush_vis(s:DS):s.flush.vis=s.vis:=rfl
theorem OA{fu dn:Bool}{le:Int}(h:0<=le/\le<=9223372036854775807):0<=Zi fu le dn/\Zi fu le dn<=9223372036854775807:=by
 unfold Zi;split <;> omega
def VQ(bp bf bv:Nat)(u:I)(k:Nat):Prop:=k=bp\/k=bf\/k=bv\/u.ownBlock=Z k
def Dk(w:Y)(P:Nat->Prop)(p:I)(s:DS):Prop:=
 ∃ bp bf bv u,p=Am (Z ⟨bp,0,J⟩)/\DskAt w 0 bp bf bv u s.F s.vis s.U s.fu s.le s.dn/\(0<=s.le/\s.le<=9223372036854775807)/\∀ k,P k ↔ VQ bp bf bv u k
theorem DskAt.ownlt{w:Y}{B bp bf bv:Nat}{u:I}{F V:List (List Int)}{U:List (Nat × List Int)}{fu dn:Bool}{le:Int}(h:DskAt w B bp bf bv u F V U fu le dn)(k:Nat)(hk:VQ bp bf bv u k):k<w.heap.size:=by
 rcases hk with rfl|rfl|rfl|hk
 . exact(Al.1 h.hp).1
 . exact(Al.1 h.hf).1
 . exact(Al.1 h.hv).1
 . exact(h.hu.lt k hk).2
theorem Dk.lt{w:Y}{P:Nat->Prop}{p:I}{s:DS}(h:Dk w P p s)(k:Nat)(hk:P k):k<w.heap.size:=by
 obtain⟨bp,bf,bv,u,_,hd,_,hP⟩:=h;exact hd.ownlt k ((hP k).1 hk)
theorem Dk.below{w w':Y}{P:Nat->Prop}{p:I}{s:DS}(h:Dk w P p s)(hb:At w.heap.size w w'):Dk w' P p s:=by
 obtain⟨bp,bf,bv,u,hp,hd,hl,hP⟩:=h;exact⟨bp,bf,bv,u,hp,hd.below hb,hl,hP⟩
theorem Dk.ptr{w:Y}{P:Nat->Prop}{p:I}{s:DS}(h:Dk w P p s):∃ bp,p=Am (Z ⟨bp,0,J⟩):=by
 obtain⟨bp,_,_,_,hp,_⟩:=h;exact⟨bp,hp⟩
theorem DskAt.lower{w:Y}{B bp bf bv:Nat}{u:I}{F V:List (List Int)}{U:List (Nat × List Int)}{fu dn:Bool}{le:Int}(h:DskAt w B bp bf bv u F V U fu le dn):DskAt w 0 bp bf bv u F V U fu le dn:=
 { h with bB:=⟨AX _,AX _,AX _⟩,hu:=⟨h.hu.1,h.hu.2.imp id fun⟨g,cap,cur,hv,_,r⟩=>⟨g,cap,cur,hv,AX _,r⟩⟩ }
theorem Chg.of_wrote{bp bf bv:Nat}{u:I}{P:Nat->Prop}(hP:∀ k,P k ↔ VQ bp bf bv u k){w w':Y}(h:Wrote w w' bp):Chg P P w w':=
 ⟨h.1,h.2.1,h.2.2.1,Nat.le_of_eq h.2.2.2.1.symm,fun k _ hn=>⟨h.2.2.2.2 k fun e=>hn ((hP k).2 (AN e)),hn⟩⟩
theorem Chg.of_frU{bp bf bv:Nat}{u u':I}{P:Nat->Prop}(hP:∀ k,P k ↔ VQ bp bf bv u k){w w':Y}(h:FrU w w' bp bf bv u u'):Chg P (VQ bp bf bv u') w w':=
 ⟨h.os,h.tape,h.output,h.size,fun k hk hn=>by
   have h1:k≠bp:=fun e=>hn ((hP k).2 (AN e))
   have h2:k≠bf:=fun e=>hn ((hP k).2 (Ba (AN e)))
   have h3:k≠bv:=fun e=>hn ((hP k).2 (Ba (Ba (AN e))))
   have h4:u.ownBlock≠Z k:=fun e=>hn ((hP k).2 (Ba (Ba (Ba e))))
   refine⟨h.block k hk h1 h2 h3 h4,?_⟩;rintro(e|e|e|e)
   . exact h1 e
   . exact h2 e
   . exact h3 e
   . rcases h.own k e with e|e
     . exact h4 e
     . omega⟩
theorem Chg.of_fr3{bp bf bv:Nat}{u:I}{P:Nat->Prop}(hP:∀ k,P k ↔ VQ bp bf bv u k){w w':Y}(h:Fr3 w w' bp bf bv):Chg P (VQ bp bf bv (Ak J 0 0)) w w':=
 Chg.of_frU hP ⟨h.os,h.tape,h.output,h.size,fun k hk h1 h2 h3 _=>h.block k hk h1 h2 h3,fun k hk=>by simp[I.ownBlock] at hk⟩
def Ro(l:List Int)(n:Int):Bool:=l.any fun x=>x==n
theorem jK{l:List Int}{n:Int}(k:Nat)(hk:k<l.length)(h:l.getD k 0=n):Ro l n=AL:=by
 unfold Ro;rw[List.any_eq_true];refine⟨l[k],Bf hk,?_⟩;have e:l.getD k 0=l[k]:=by simp[hk]
 rw[<- e,h];simp
theorem m4{l:List Int}{n:Int}(h:∀ k,k<l.length->l.getD k 0≠n):Ro l n=AI:=by
 unfold Ro;rw[List.any_eq_false];intro x hx;obtain⟨k,hk,rfl⟩:=BW hx;have e:l.getD k 0=l[k]:=by simp[hk]
 have:=h k hk;rw[e] at this
 simpa using this
theorem jW(N:List Int)(i:Nat):Yu N i=!(Ro (N.take i) (N.getD i 0)):=by
 unfold Yu Ro;rw[List.not_any_eq_all_not]
def lZ(N:List Int)(i:Nat):Bool:=Uq (N.getD i 0) && Yu N i
def bF(N:List Int)(k:Nat):Bool:=(Co k).all fun i=>lZ N i
def ES(N:List Int):Bool:=decide (N.length<=37) && bF N N.length
theorem L7(N:List Int)(k:Nat):bF N k=AL ↔ ∀ i,i<k->lZ N i=AL:=by
 unfold bF;rw[DJ];exact⟨fun h i hi=>h i (Bo.2 hi),fun h i hi=>h i (Bo.1 hi)⟩
theorem lj{N:List Int}(i:Nat)(hi:i<N.length)(h:lZ N i=AI):ES N=AI:=by
 cases e:ES N
 . rfl
 . unfold ES at e
   rw[AY] at e;rw[(L7 N _).1 e.2 i hi] at h;cases h
theorem RP{N:List Int}(h:37<N.length):ES N=AI:=by
 unfold ES;rw[AG (by omega)];rfl
theorem gT{N:List Int}(h1:N.length<=37)(h:∀ i,i<N.length->lZ N i=AL):ES N=AL:=by
 unfold ES;rw[AF h1,(L7 N _).2 h];rfl
def whole(D:List (List Int)):Bool:=(Co D.length).all fun i=>decide ((D.getD i []).length=256)
theorem OW(D:List (List Int)):whole D=AL ↔ ∀ i,i<D.length->(D.getD i []).length=256:=by
 unfold whole;rw[DJ];exact⟨fun h i hi=>A7 (h i (Bo.2 hi)),fun h i hi=>AF (h i (Bo.1 hi))⟩
theorem j5{D:List (List Int)}(i:Nat)(hi:i<D.length)(h:(D.getD i []).length≠256):whole D=AI:=by
 cases e:whole D
 . rfl
 . exact absurd ((OW D).1 e i hi) h
theorem JM(N:List Int)(D:List (List Int)):GA N D=(ES N && (decide (D.length=N.length) && whole D)):=by
 by_cases h1:N.length<=37
 . by_cases h2:D.length=N.length
   . unfold GA ES whole
     rw[AF h1,AF h2,h2,AP,AP,AP];have:∀ k,a8 N D k=(bF N k && (Co k).all fun i=>decide ((D.getD i []).length=256)):=fun k=>by
      rw[Bool.eq_iff_iff,AY,OX,L7,DJ];constructor
      . intro h
        refine⟨fun i hi=>?_,fun i hi=>?_⟩
        . have:=h i hi
          unfold Z5 at this;unfold lZ;rw[AY,AY] at this;rw[this.1,this.2.2];rfl
        . have:=h i (Bo.1 hi)
          unfold Z5 at this;rw[AY,AY] at this;exact this.2.1
      . rintro⟨ha,hb⟩ i hi
        have h3:=ha i hi;have h4:=hb i (Bo.2 hi);unfold lZ at h3;rw[AY] at h3;unfold Z5;rw[h3.1,h3.2,h4];rfl
     exact this _
   . rw[ke h2,AG h2];simp
 . rw[fm (by omega),RP (by omega)];rfl
theorem GU{N:List Int}(h:ES N=AL):N.length<=37/\∀ i,i<N.length->0<=N.getD i 0/\N.getD i 0<=767:=by
 unfold ES at h;rw[AY,Bd,L7] at h;refine⟨h.1,fun i hi=>?_⟩;have:=h.2 i hi;unfold lZ Uq at this;rw[AY,Bd] at this;exact this.1
theorem Y5{w:Y}{v:I}{l:List Int}(hs:ISl w v l)(hl:l.length<=1000000)(n:Int):AA Ae 237 #[v,O Ad n] w fun e w'=>(∃ r:Int,e=Ag (O Ad r)/\decide (0<=r)=Ro l n/\ -1<=r/\r<=1000000)/\w=w':=by
 obtain⟨ao,cap,rfl,hc⟩:=hs.open';have EI:=fun k (hk:k<l.length)=>jK (l:=l) (n:=n) k hk
 have C6:=m4 (l:=l) (n:=n);obtain⟨R,hR⟩:=nm (Ro l n);rw[<- hR] at EI C6 |-
 obtain⟨N,hN⟩:=nm l.length;rw[<- hN] at hc C6 EI hl |-
 have HC:=vJ hc;have HNO:=vJ C6;have HYE:=vJ EI;clear hc C6 EI hR hs hN;go_enter Tryz.func237,Tryz.ntmps237;go_wp2
 go_loop [8] (fun i=>∃ k:Nat,k<=N/\i=O Ad k/\Hid (∀ j,j<k->l.getD j 0≠n)) (fun i=>N-(intOf i).toNat)
 case atStart=>exact⟨0,by omega,rfl,fun j hj=>absurd hj (A8 _)⟩
 case round=>
  obtain⟨k,hk,rfl,HK⟩:=hrel;by_cases hlt:k<N
  . obtain⟨b,off,rfl,_,hcc⟩:=HC.out (by omega)
    have hck:=hcc k hlt;have oJ:=HYE.out k hlt;obtain⟨x,hx⟩:=nm (l.getD k 0);rw[<- hx] at hck oJ;have HX:=vJ hx;have HY1:=vJ oJ;have ek:(k:Int)<(N:Int):=(by omega);clear hx hcc oJ;by_cases hf:n=x
    . have hR:=HY1.out hf.symm
      subst hR;subst hf;go_wp2;go_ret;exact⟨⟨_,rfl,by simp,by omega,by omega⟩,rfl⟩
    . have HF:=vJ hf
      go_wp2
      go_round
      case rel=>
       refine⟨k+1,by omega,by go_num,fun j hj=>?_⟩;by_cases e:j=k
       . subst e;rw[<- HX.out];exact fun h=>HF.out h.symm
       . exact HK.out j (by omega)
      case measure=>simp[intOf];omega
  . obtain rfl:k=N:=by omega
    have hR:=HNO.out HK.out;subst hR;go_wp2;go_ret;exact⟨⟨_,rfl,by decide,by decide,by decide⟩,rfl⟩
theorem dO{w:Y}{v:I}{l:List Int}(hs:ISl w v l)(hl:l.length<=1000000)(n:Int)(B:Bool)(hB:Ro l n=B):AA Ae 215 #[v,O Ad n] w fun e w'=>e=Ag (A1 B)/\w=w':=by
 have K:=vJ (Y5 hs hl n);rw[hB] at K;clear hB hs hl;go_enter Tryz.func215,Tryz.ntmps215;go_wp2_with (go_at_call 237;(with_reducible refine K.out.mono ?_);rintro e w2 ⟨⟨r,rfl,hr,Kh,hr1⟩,rfl⟩)
 go_ret;exact⟨by rw[<- hr];rfl,rfl⟩
def ISc(w:Y)(v:I)(l:List Int):Prop:=ISl w v l/\∃ ao cap,v=Ak ao l.length cap/\l.length<=cap
theorem ISc.below{w w':Y}{v:I}{l:List Int}(h:ISc w v l)(hb:At w.heap.size w w'):ISc w' v l:=⟨h.1.below hb,h.2⟩
theorem IR.isc{w:Y}{B:Nat}{v:I}{l:List Int}(h:IR w B v l):ISc w v l:=by
 refine⟨h.sl,?_⟩;rcases h.2 with⟨hv,hl⟩| ⟨g,cap,cur,hv,hg,hh,Hn,_⟩
 . exact⟨J,0,by rw[hv,hl],by omega⟩
 . exact⟨_,cap,hv,Hn⟩
theorem ISl.take{w:Y}{a:Addr}{cap:Nat}{l:List Int}(h:ISl w (Ak (Z a) l.length cap) l)(n:Nat)(hn:n<=l.length):ISl w (Ak (Z a) n cap) (l.take n):=by
 rcases h with⟨hv,_⟩| ⟨a',c',hv,hc⟩
 . simp at hv
 . obtain⟨rfl,rfl⟩:a=a'/\cap=c':=⟨Bz (A0 hv).1,(A0 hv).2.2⟩
   have hl:(l.take n).length=n:=(by rw[AK];omega);refine Ba ⟨a,cap,by rw[hl],fun j hj=>?_⟩;rw[hl] at hj;obtain⟨h1,h2,h3⟩:=hc j (by omega);refine⟨h1,h2,?_⟩;rw[h3];simp[hj]
theorem S9{w:Y}{v:I}{l:List Int}(hs:ISc w v l):AA Ae 200 #[v] w fun e w'=>e=Ag (A1 (ES l))/\w=w':=by
 obtain⟨h1,ao,cap,rfl,Cm⟩:=hs;obtain⟨ao',cap',hv,hc⟩:=h1.open';obtain⟨rfl,rfl⟩:ao=ao'/\cap=cap':=⟨(A0 hv).1,(A0 hv).2.2⟩;by_cases Ki:l.length<=37
 . have C6:=fun k hk h=>lj (N:=l) k hk h
   have EI:=gT Ki;obtain⟨R,hR⟩:=nm (ES l);have XJ:=fun(a:Addr) (h:ao=Z a) n hn=>ISl.take (w:=w) (a:=a) (cap:=cap) (l:=l) (by rw[<- h];exact h1) n hn
   have hnt:=fun i=>jW l i
   have HTL:=vJ (fun n:Nat=>(AK (i:=n) (l:=l)));rw[<- hR] at C6 EI |-
   obtain⟨N,hN⟩:=nm l.length;rw[<- hN] at hc C6 EI Ki Cm XJ HTL |-
   have HC:=vJ hc;have HNO:=vJ C6;have HYE:=vJ EI;have HTK:=vJ XJ;have HNT:=vJ hnt;have Mi:¬ 37<(N:Int):=(by omega);clear hc C6 EI hR h1 hN hv XJ hnt;go_enter Tryz.func200,Tryz.ntmps200;go_wp2
   go_loop [10] (fun i=>∃ k:Nat,k<=N/\i=O Ad k/\Hid (∀ j,j<k->lZ l j=AL)) (fun i=>N-(intOf i).toNat)
   case atStart=>exact⟨0,by omega,rfl,fun j hj=>absurd hj (A8 _)⟩
   case round=>
    obtain⟨k,hk,rfl,HK⟩:=hrel;by_cases hlt:k<N
    . obtain⟨b,off,rfl,_,hcc⟩:=HC.out (by omega)
      have hck:=hcc k hlt;have hn1:=HNO.out k hlt;have hok:lZ l k=(Uq (l.getD k 0) && !(Ro (l.take k) (l.getD k 0))):=(by unfold lZ;rw[HNT.out]);have XJ:=HTK.out _ rfl k (by omega);have lF:(l.take k).length<=1000000:=(by rw[HTL.out];omega);obtain⟨x,hx⟩:=nm (l.getD k 0);rw[<- hx] at hck hok;have KH:=vJ (fun B hB=>dO XJ lF x B hB);have HOK:=vJ hok;have HN1:=vJ hn1;have ek:(k:Int)<(N:Int):=(by omega);have ek2:(k:Int)<=(cap:Int):=(by omega);have ek3:k<=cap:=(by omega);clear hx hcc hn1 hok XJ lF;by_cases Se:x<0
      . have hR:=HN1.out (by rw[HOK.out];unfold Uq;rw[AG (by omega)];rfl)
        subst hR;go_wp2;go_ret;exact⟨rfl,rfl⟩
      . by_cases tw:767<x
        . have hR:=HN1.out (by rw[HOK.out];unfold Uq;rw[AG (by omega)];rfl)
          subst hR;go_wp2;go_ret;exact⟨rfl,rfl⟩
        . have hin:Uq x=AL:=AF (by omega)
          rw[hin,AP] at HOK;obtain⟨B,hB⟩:∃ B,Ro (l.take k) x=B:=⟨_,rfl⟩;have KB:=vJ (KH.out B hB);rw[hB] at HOK;have h01:¬ x > 767:=(by omega);clear hB hin KH;cases B
          . go_wp2_with (go_at_call 215;(with_reducible refine KB.out.mono ?_);rintro e w2 ⟨rfl,rfl⟩)
            go_round
            case rel=>
             refine⟨k+1,by omega,by go_num,fun j hj=>?_⟩;by_cases e:j=k
             . subst e;exact HOK.out
             . exact HK.out j (by omega)
            case measure=>simp[intOf];omega
          . have hR:=HN1.out HOK.out
            subst hR;go_wp2_with (go_at_call 215;(with_reducible refine KB.out.mono ?_);rintro e w2 ⟨rfl,rfl⟩)
            go_ret;exact⟨rfl,rfl⟩
    . obtain rfl:k=N:=by omega
      have hR:=HYE.out HK.out;subst hR;go_wp2;go_ret;exact⟨rfl,rfl⟩
 . rw[RP (by omega)]
   obtain⟨N,hN⟩:=nm l.length;rw[<- hN] at Ki |-
   have Mi:37<(N:Int):=(by omega);clear hc h1 hv hN;go_enter Tryz.func200,Tryz.ntmps200;go_wp2;go_ret;exact⟨rfl,rfl⟩
theorem OZ{w:Y}{v:I}{L:List (List Int)}(hs:BBSl w v L)(hL:L.length<=1000000):AA Ae 178 #[v] w fun e w'=>e=Ag (A1 (whole L))/\w=w':=by
 obtain⟨ao,cap,rfl,_,hc⟩:=hs.open';have C6:=fun k hk h=>j5 (D:=L) k hk h
 have EI:=(OW L).2;obtain⟨R,hR⟩:=nm (whole L);rw[<- hR] at C6 EI |-
 obtain⟨N,hN⟩:=nm L.length;rw[<- hN] at hc C6 EI hL |-
 have HC:=vJ hc;have HNO:=vJ C6;have HYE:=vJ EI;clear hc C6 EI hR hs hN;go_enter Tryz.func178,Tryz.ntmps178;go_wp2
 go_loop [7] (fun i=>∃ k:Nat,k<=N/\i=O Ad k/\Hid (∀ j,j<k->(L.getD j []).length=256)) (fun i=>N-(intOf i).toNat)
 case atStart=>exact⟨0,by omega,rfl,fun j hj=>absurd hj (A8 _)⟩
 case round=>
  obtain⟨k,hk,rfl,HK⟩:=hrel;by_cases hlt:k<N
  . obtain⟨b,off,rfl,_,hcc⟩:=HC.out (by omega)
    obtain⟨u,hck,hu⟩:=hcc k hlt;have hn1:=HNO.out k hlt;obtain⟨uo,uc,rfl,_⟩:=hu.shape;obtain⟨x,hx⟩:=nm ((L.getD k []).length);rw[<- hx] at hck hn1;have HX:=vJ hx;have HN1:=vJ hn1;have ek:(k:Int)<(N:Int):=(by omega);clear hx hcc hn1 hu;by_cases hf:x=256
    . subst hf
      go_wp2
      go_round
      case rel=>
       refine⟨k+1,by omega,by go_num,fun j hj=>?_⟩;by_cases e:j=k
       . subst e;exact HX.out.symm
       . exact HK.out j (by omega)
      case measure=>simp[intOf];omega
    . have hR:=HN1.out hf
      subst hR;have hfi:¬ (x:Int)=256:=(by omega);have hne:((x:Int) != 256)=AL:=(by simp;omega);go_wp2;go_ret;exact⟨rfl,rfl⟩
  . obtain rfl:k=N:=by omega
    have hR:=HYE.out HK.out;subst hR;go_wp2;go_ret;exact⟨rfl,rfl⟩
def TxV(w:Y)(v:I)(q:Int)(N:List Int)(D:List (List Int)):Prop:=
 ∃ no nc ao dc,v=BD #[O .u32 q,Ak no N.length nc,Ak ao D.length dc]/\ISc w (Ak no N.length nc) N/\BBSl w (Ak ao D.length dc) D
theorem TxV.below{w w':Y}{v:I}{q:Int}{N:List Int}{D:List (List Int)}(h:TxV w v q N D)(hb:At w.heap.size w w'):TxV w' v q N D:=by
 obtain⟨no,nc,ao,dc,h1,h2,h3⟩:=h;exact⟨no,nc,ao,dc,h1,h2.below hb,h3.below hb⟩
theorem WY{w:Y}{v:I}{q:Int}{N:List Int}{D:List (List Int)}(h:TxV w v q N D)(B:Bool)(hB:GA N D=B):AA Ae 180 #[v] w fun e w'=>e=Ag (A1 B)/\At w.heap.size w w':=by
 obtain⟨no,nc,ao,dc,rfl,hN,hD⟩:=h;obtain⟨n,hn⟩:=nm N.length;obtain⟨m,hm⟩:=nm D.length;rw[JM,<- hn,<- hm] at hB;have KN:=vJ (fun W (hb:At w.heap.size w W)=>S9 (hN.below hb));have KD:=vJ (fun W (hb:At w.heap.size w W) (hl:D.length<=1000000)=>OZ (hD.below hb) hl);have HL:=vJ (fun(h:ES N=AL)=>(GU h).1);rw[<- hn] at KN HL |-
 rw[<- hm] at KD |-
 have hbx:=Ay w (Ar #[O .u32 q,Ak no n nc,Ak ao m dc] 180);have E5:=Aw w (Ar #[O .u32 q,Ak no n nc,Ak ao m dc] 180);clear hN hD hn hm;go_enter Tryz.func180,Tryz.ntmps180;go_upto_region 1 with(fail)
 generalize w.alloc (Ar #[O .u32 q,Ak no n nc,Ak ao m dc] 180)=u at hbx E5 |-
 have KN1:=vJ (KN.out _ hbx);have KD1:=vJ (KD.out _ hbx);have HBX:=vJ hbx;clear KN KD hbx;have d1:u.cell? ⟨w.heap.size,1,J⟩=Z (Ak no n nc):=by rw[Az _ _ _ _ _ _ E5];rfl
 have d2:u.cell? ⟨w.heap.size,2,J⟩=Z (Ak ao m dc):=by rw[Az _ _ _ _ _ _ E5];rfl
 clear E5;obtain⟨F,hF⟩:∃ F,ES N=F:=⟨_,rfl⟩;obtain⟨G,hG⟩:∃ G,whole D=G:=⟨_,rfl⟩;rw[hF,hG] at hB;rw[hF] at KN1 HL;rw[hG] at KD1;have HLE:=vJ (fun(h:F=AL) (h2:m=n)=>show m<=1000000 by have:=HL.out h;omega);clear hF hG HL;cases F
 . rw[Bool.false_and] at hB
   subst hB;go_wp2_with (go_at_call 200;(with_reducible refine KN1.out.mono ?_);rintro e w2 ⟨rfl,rfl⟩)
   go_ret;exact⟨rfl,HBX.out⟩
 . by_cases Vu:m=n
   . have Mi:=HLE.out rfl Vu
     rw[AF Vu,AP,AP] at hB;subst hB;subst Vu;have KD2:=vJ (KD1.out Mi);clear Mi HLE KD1
     go_wp2_with (first
      |(go_at_call 200;(with_reducible refine KN1.out.mono ?_);rintro e w2 ⟨rfl,rfl⟩)
      |(go_at_call 178;(with_reducible refine KD2.out.mono ?_);rintro e w3 ⟨rfl,rfl⟩))
     go_ret;exact⟨rfl,HBX.out⟩
   . rw[AG Vu,Bool.false_and,Bool.and_false] at hB
     subst hB;have hne:¬ (m:Int)=(n:Int):=(by omega);have hne2:((m:Int)==(n:Int))=AI:=by simpa using hne
     have hne3:decide ((m:Int)=(n:Int))=AI:=AG hne;clear HLE KD1 Vu;go_wp2_with (go_at_call 200;(with_reducible refine KN1.out.mono ?_);rintro e w2 ⟨rfl,rfl⟩)
     go_ret;exact⟨rfl,HBX.out⟩
theorem mL(w:Y)(B:Nat):OB w B (Ak J 0 0) []:=⟨Gq,E4 w B _ _⟩
theorem OS{w:Y}{v:I}{l:List Int}(hs:BSl w v l)(hl:l.length<=1000000):AA Ae 128 #[v] w (JZ w l):=by
 have hs':=hs;rcases hs.2 with⟨rfl,rfl⟩| ⟨a,cap,rfl,Cm,hc⟩
 . clear hs hs' hl
   have he:∀ w:Y,(binOp .eql 49 (Ak J 0 0) (Ak J 0 0)).run Ae w=.ok (A1 AL) w:=fun _=>rfl
   go_enter Tryz.func128,Tryz.ntmps128;go_wp2;go_ret;exact⟨_,rfl,mL _ _,AM _ _⟩
 . have HS:=vJ hs'
   have HL:Hid (0+l.length<=140737488355328):=vJ (by omega);have H0:=vJ (Rm w);have hb0:=Ay w (Ar #[] 5);have HK:=vJ (fun(p:Addr) (hp:p.block<w.heap.size)=>Df w (Ar #[] 5) p hp);have En:w.heap.size<=(w.alloc (Ar #[] 5)).heap.size:=(by simp);clear hs hs' hc hl;have he:∀ w:Y,(binOp .eql 49 (Ak (Z a) l.length cap) (Ak J 0 0)).run Ae w=.ok (A1 AI) w:=fun _=>rfl
   go_enter Tryz.func128,Tryz.ntmps128
   go_wp2_with (at_builtin;refine BY _ rfl (.tmp 5) (.tmp 6) rfl w.heap.size _ [] rfl H0.out w _ l rfl HS.out HK.out HL.out En ?_
                intro v3 w3 hob3 hb3 _)
   go_ret;exact⟨_,rfl,hob3,hb0.trans hb3⟩
theorem mn(n:Nat):madeCells (Ak J 0 0).cells n=A3 n (Ak J 0 0):=by
 apply Array.ext';rw[show(Ak J 0 0).cells=#[Ak J 0 0] from rfl,toList_madeCells_one];simp
theorem Lo(w:Y){ops:Array BS}{rest:List BS}{o:BS}{a:Act}{Q:Exit->Act->Y->Prop}
 (hg:o.guard=J) (l c:Operand) (Mr:o.op=Op.makeSlice 63 l c) (C:Int) (n:Nat) (hl:a.eval l=O Ad C) (hc:a.eval c=O Ad C) (hC:C=n) (hn:n<=1000000)
 (hK:Cn Ae ops Q rest (a.put o.dst (Ak (Z ⟨w.heap.size,0,J⟩) n n)) (w.alloc (Ar (A3 n (Ak J 0 0)) 49))):
 Cn Ae ops Q (o :: rest) a w:=by
 refine CM hg fun K hK'=>?_
 obtain⟨i,h2,h3,h4,h5⟩:=By Sb;subst hC;have DY:=run_make (P:=Ae) w 63 49 i (Ak J 0 0) Tryz.underlying63 h2 h3 Ad Ad n n (by omega) (by omega) (by rw[h5];omega) (by omega);unfold BS.wp;simp only[B5,h4,Nat.mul_one,mn] at DY;simp[execOp,Mr,hl,hc,DY,Result.andThen];exact hK' _ _ hK
theorem bh{W:Y}{g:Nat}{vs:List I}{T:TypeId}(h:W.heap[g]? =Z (Ar vs.toArray T (0,0)))(k:Nat):W.frozen? ⟨g,k,J⟩=AI:=by
 simp[Y.frozen?,h]
theorem ka{W:Y}{g:Nat}{vs:List I}{T:TypeId}(h:W.heap[g]? =Z (Ar vs.toArray T (0,0)))(j:Nat)(y:I):(W.setCell ⟨g,j,J⟩ y).heap[g]? =Z (Ar (vs.set j y).toArray T (0,0)):=by
 rw[Bs W g j _ _ _ h];simp
def RowB(w:Y)(g B n:Nat)(D:List (List Int))(k:Nat):Prop:=
 ∃ vs:List I,vs.length=n/\w.heap[g]? =Z (Ar vs.toArray 49 (0,0))/\∀ j,j<k->BElt w B (vs.getD j undef) (D.getD j [])
theorem RowB.make(w:Y)(B n:Nat)(D:List (List Int)):RowB (w.alloc (Ar (A3 n (Ak J 0 0)) 49)) w.heap.size B n D 0:=
 ⟨AD n (Ak J 0 0),A4,by rw[Aw];simp,fun j hj=>absurd hj (A8 _)⟩
theorem RowB.row{w:Y}{g B n:Nat}{D:List (List Int)}{k:Nat}(h:RowB w g B n D k):∃ vs:List I,vs.length=n/\w.heap[g]? =Z (Ar vs.toArray 49 (0,0)):=by
 obtain⟨vs,h1,h2,_⟩:=h;exact⟨vs,h1,h2⟩
theorem RowB.below{w w':Y}{g B n:Nat}{D:List (List Int)}{k:Nat}(h:RowB w g B n D k)(hb:At w.heap.size w w'):RowB w' g B n D k:=by
 obtain⟨vs,h1,h2,h3⟩:=h;have hg:g<w.heap.size:=(Al.1 h2).1;exact⟨vs,h1,(hb.block g hg).trans h2,fun j hj=>(h3 j hj).below hb⟩
theorem RowB.set{w:Y}{g B n:Nat}{D:List (List Int)}{k:Nat}(h:RowB w g B n D k)(hk:k<n)(hB:B<=g){y:I}(hy:BElt w B y (D.getD k [])):RowB (w.setCell ⟨g,k,J⟩ y) g B n D (k+1):=by
 obtain⟨vs,h1,h2,h3⟩:=h;have hgr:w.grownBy (w.setCell ⟨g,k,J⟩ y) (Z g):=by
  have:=Wrote.setCell w g k y;exact⟨this.1,this.2.1,this.2.2.1,by rw[this.2.2.2.1];exact AB _,fun b hb hne=>this.2.2.2.2 b (fun e=>hne (by rw[e]))⟩
 have hrow:∀ g',Z g=Z g'->B<=g'/\∃ cur,w.heap[g']? =Z (Ar cur 49 (0,0)):=fun g' e=>by
  obtain rfl:=Bz e;exact⟨hB,_,h2⟩
 refine⟨vs.set k y,by rw[AJ];exact h1,ka h2 k y,fun j hj=>?_⟩;by_cases e:j=k
 . subst e
   have:=hy.grown hrow hgr
   simpa [h1,hk] using this
 . have:=(h3 j (by omega)).grown hrow hgr
   rw[An,Bw (by omega),<- An];exact this
theorem RowB.done{w:Y}{g B:Nat}{D:List (List Int)}(h:RowB w g B D.length D D.length)(hB:B<=g)(hm:D.length<=1000000):BBR w B (Ak (Z ⟨g,0,J⟩) D.length D.length) D:=by
 obtain⟨vs,h1,h2,h3⟩:=h;refine⟨vs,h1,h3,by rw[h1,Nat.mul_one],Ba ⟨g,D.length,_,rfl,hB,h2,AB _,by unfold maxLen;omega,by simp[h1],?_⟩⟩;rw[AV (by simp[h1])]
theorem QF{w:Y}{v:I}{D:List (List Int)}(hs:BBSl w v D)(hD:D.length<=1000000)(hl:∀ j,(D.getD j []).length<=1000000)
 (B:Nat) (hB:B<=w.heap.size):AA Ae 179 #[v] w fun e w'=>∃ u,e=Ag u/\BBR w' B u D/\At w.heap.size w w':=by
 obtain⟨ao,cap,rfl,_,hc⟩:=hs.open';have HDN:=vJ (fun W (h:RowB W w.heap.size B D.length D D.length)=>h.done hB hD);have HBG:=vJ hB;have HLN:=vJ hl;obtain⟨n,hn⟩:=nm D.length;rw[<- hn] at hc hD HDN |-
 have HC:=vJ hc;have hbx:=Ay w (Ar (A3 n (Ak J 0 0)) 49);have Kh:=RowB.make w B n D;clear hs hc hl hn hB;go_enter Tryz.func179,Tryz.ntmps179;go_wp2_with (at_make;refine Lo w rfl _ _ rfl (n:Int) n rfl rfl rfl hD ?_)
 generalize w.alloc (Ar (A3 n (Ak J 0 0)) 49)=w1 at hbx Kh |-
 have HR0:=vJ Kh;have HBX:=vJ hbx;obtain⟨g,hg⟩:=nm w.heap.size;rw[<- hg] at HR0 HDN HBG |-
 have HG:=vJ hg;clear Kh hbx hg;go_loopw [11] (fun i wr=>∃ k:Nat,k<=n/\i=O Ad k/\Hid (RowB wr g B n D k)/\Hid (At w.heap.size w wr)) (fun i _=>n-(intOf i).toNat)
 case atStart=>exact⟨0,by omega,rfl,HR0,HBX⟩
 case round=>
  obtain⟨k,hk,rfl,HR,HB⟩:=hrel;clear HR0 HBX;by_cases hlt:k<n
  . obtain⟨b,off,rfl,hb,hcc⟩:=HC.out (by omega)
    obtain⟨u,oI,hu⟩:=hcc k hlt;have hck:=(HB.out.cell (p:=⟨b,off+k,J⟩) hb).trans oI;have KC:=vJ (OS (hu.below HB.out) (HLN.out k));have ek:(k:Int)<(n:Int):=(by omega);obtain⟨vs,tI,hvr⟩:=HR.out.row;have hgr:g<wr.heap.size:=(Al.1 hvr).1;clear hcc oI hu hb tI hvr
    go_wp2_with (go_at_call 128;(with_reducible refine KC.out.mono ?_);rintro e w2 ⟨y,rfl,hoy,hb2⟩
                 obtain⟨yo,yc,rfl,_⟩:=hoy.bsl.shape;generalize (D.getD k []).length=yl at hoy |-
                 have hr2:=HR.out.below hb2;have HY:=vJ (hoy.elt (B:=B));have HR2:=vJ hr2;obtain⟨vs2,lJ,am⟩:=hr2.row;have hf2:=bh am k;have hc2:∃ z,w2.cell? ⟨g,k,J⟩=Z z:=⟨vs2[k]'(by omega),by rw[Az _ _ _ _ _ _ am];simp[lJ,hlt]⟩;obtain⟨z,hz⟩:=hc2;have HB2:=vJ (HB.out.trans (hb2.mono HB.out.size));clear hr2 lJ am hoy)
    go_roundw
    case rel=>exact⟨k+1,by omega,by go_num,HR2.out.set hlt HBG.out HY.out,(HB2.out.trans ((Wrote.setCell w2 g k _).below (by rw[HG.out];exact AB _)))⟩
    case measure=>simp[intOf];omega
  . obtain rfl:k=n:=by omega
    go_wp2;go_ret;exact⟨_,rfl,HDN.out _ HR.out,HB.out⟩
theorem Wa(w:Y)(l:List Int)(hb:FJ l)(n:Nat)(hn:l.length=n)(C:Array I)(hC:C=(l.map (O .u8)).toArray)(fz:Nat × Nat):BSl (w.alloc (Ar C 5 fz)) (Ak (Z ⟨w.heap.size,0,J⟩) n n) l:=by
 subst hC hn;have hh:(w.alloc (Ar (l.map (O .u8)).toArray 5 fz)).heap[w.heap.size]? =Z (Ar (l.map (O .u8)).toArray 5 fz):=by
  show(w.heap.push _)[w.heap.size]? =_
  simp
 refine⟨hb,Ba ⟨⟨w.heap.size,0,J⟩,l.length,rfl,AB _,fun j hj=>⟨by simp,rfl,?_⟩⟩⟩;show(w.alloc _).cell? ⟨w.heap.size,0+j,J⟩=_
 rw[Bm,Az _ _ _ _ _ _ hh];simp[hj]
theorem kC(w:Y):BSl (w.alloc (Ar #[O .u8 106,O .u8 114,O .u8 110,O .u8 108] 5 (4,5))) (Ak (Z ⟨w.heap.size,0,J⟩) 4 4) jrnl:=
 Wa w jrnl kz 4 rfl _ rfl _
theorem kO(w:Y):BSl (w.alloc (Ar #[O .u8 100,O .u8 111,O .u8 110,O .u8 101] 5 (4,5))) (Ak (Z ⟨w.heap.size,0,J⟩) 4 4) Rt:=
 Wa w Rt jk 4 rfl _ rfl _
theorem QW(w:Y)(C:Array I)(T:TypeId)(fz:Nat × Nat):At w.heap.size w (w.alloc (Ar C T fz)):=Ay w _
def Ly(q:Int)(N:List Int)(k:Nat):List Int:=jrnl ++ BN q 4 ++ BN (N.length:Int) 2 ++ Jg (N.take k)
theorem Y8(q:Int)(N:List Int):Ly q N N.length=Cw q N:=by unfold Ly Cw;rw[B8]
theorem Zn(q:Int)(N:List Int)(k:Nat)(hk:k<N.length):Ly q N k ++ BN (N.getD k 0) 2=Ly q N (k+1):=by
 unfold Ly;rw[eU N k hk,AQ]
theorem ZO(q:Int)(N:List Int):Ly q N 0=jrnl ++ BN q 4 ++ BN (N.length:Int) 2:=by
 unfold Ly;rw[List.take_zero];show _ ++ []=_
 rw[BB]
theorem UY(q:Int)(N:List Int)(k:Nat)(h:k<=37):(Ly q N k).length<=252:=by
 unfold Ly;simp only[Ax,Bc,Lf,AK];have:jrnl.length=4:=rfl;omega
theorem Rg{w:Y}{v:I}{q:Int}{N:List Int}(hs:ISl w v N)(Ki:N.length<=37)(hx:∀ i,i<N.length->0<=N.getD i 0/\N.getD i 0<=767)(q0:0<=q)(q1:q<4294967296):
 AA Ae 183 #[O .u32 q,v] w (JZ w (BU (Cw q N))):=by
 obtain⟨ao,cap,rfl,hc⟩:=hs.open';have HZ:=vJ (ZO q N);have HS:=vJ (Zn q N);have HF:=vJ (Y8 q N);have HLN:=vJ (UY q N);have HX:=vJ hx;obtain⟨n,hn⟩:=nm N.length;rw[<- hn] at hc Ki HZ HS HF HX |-
 have HC:=vJ hc;have kc:=fun(w:Y) (C:Array I) (n c:Nat)=>Lib.run_convert_bytes_const (P:=Ae) w 49 5 C n c Tryz.underlying49 Tryz.underlying5
 have sJ:IntKind.u64.wrap q=q:=Dh _ (by omega);have hwn:IntKind.u64.wrap (n:Int)=(n:Int):=Dh _ (by omega);have K1:=vJ (FX (kC w) (by decide) q 4 4 (by omega) (by omega) rfl q0 (by omega));have K2:=vJ (fun W v (hv:BSl W v (jrnl ++ BN q 4))=>FX hv (by rw[Ax,Bc];decide) (n:Int) 2 2 (by omega) (by omega) rfl (by omega) (by omega));have hb1:=QW w #[O .u8 106,O .u8 114,O .u8 110,O .u8 108] 5 (4,5);clear hs hc hx hn q1 q0;go_enter Tryz.func183,Tryz.ntmps183
 go_wp2_with (first
  |(go_at_call 158;(with_reducible refine K1.out.mono ?_);rintro e w2 ⟨v2,rfl,hob2,hb2⟩
    have HB2:=vJ (hb1.trans (hb2.mono hb1.size)))
  |(go_at_call 158;(with_reducible refine(K2.out _ _ hob2.bsl).mono ?_);rintro e w3 ⟨v3,rfl,hob3,hb3⟩
    have HB3:=vJ (HB2.out.trans (hb3.mono HB2.out.size))))
 have HV3:Hid (BSl w3 v3 (Ly q N 0)):=vJ (by rw[HZ.out];exact hob3.bsl);clear hob2 hob3 hb1 hb2 hb3 kc;go_loopw [5,22] (fun u i wr=>∃ k:Nat,k<=n/\i=O Ad k/\Hid (BSl wr u (Ly q N k))/\Hid (At w.heap.size w wr)) (fun _ i _=>n-(intOf i).toNat)
 case atStart=>exact⟨0,by omega,rfl,HV3,HB3⟩
 case round=>
  obtain⟨k,hk,rfl,HV,HB⟩:=hrel;clear HV3 HB3;by_cases hlt:k<n
  . obtain⟨b,off,rfl,hb,hcc⟩:=HC.out (by omega)
    have hck:=(HB.out.cell (p:=⟨b,off+k,J⟩) hb).trans (hcc k hlt);obtain⟨x0,x1⟩:=HX.out k hlt;have hs1:=HS.out k hlt;obtain⟨x,Sl⟩:=nm (N.getD k 0);rw[<- Sl] at hck x0 x1 hs1;have HS1:=vJ hs1;have ek:(k:Int)<(n:Int):=(by omega);have pJ:IntKind.u64.wrap x=x:=Dh _ (by omega);have KP:=vJ (FX HV.out (by have:=HLN.out k (by omega);omega) x 2 2 (by omega) (by omega) rfl x0 (by omega));clear hcc hb Sl hs1;go_wp2_with (go_at_call 158;(with_reducible refine KP.out.mono ?_);rintro e w4 ⟨v4,rfl,hob4,hb4⟩)
    go_roundw
    case rel=>exact⟨k+1,by omega,by go_num,by show BSl _ _ _;rw[<- HS1.out];exact hob4.bsl,HB.out.trans (hb4.mono HB.out.size)⟩
    case measure=>simp[intOf];omega
  . obtain rfl:k=n:=by omega
    have KS:=vJ (L8 HV.out (HLN.out k (by omega)));go_wp2_with (go_at_call 196;(with_reducible refine KS.out.mono ?_);rintro e w5 ⟨v5,rfl,hob5,hb5⟩)
    go_ret;refine⟨_,rfl,?_,HB.out.trans (hb5.mono HB.out.size)⟩;rw[<- HF.out];exact hob5.more HB.out.size
theorem Uo(w:Y){q:Int}(q0:0<=q)(q1:q<4294967296):AA Ae 177 #[O .u32 q] w (JZ w (BU (Ec q))):=by
 have kc:=fun(w:Y) (C:Array I) (n c:Nat)=>Lib.run_convert_bytes_const (P:=Ae) w 49 5 C n c Tryz.underlying49 Tryz.underlying5
 have sJ:IntKind.u64.wrap q=q:=Dh _ (by omega);have K1:=vJ (FX (kO w) (by decide) q 4 4 (by omega) (by omega) rfl q0 (by omega));have K2:=vJ (fun W v (hv:BSl W v (Rt ++ BN q 4))=>L8 hv (by rw[Ax,Bc];decide));have hb1:=QW w #[O .u8 100,O .u8 111,O .u8 110,O .u8 101] 5 (4,5);clear q1 q0;go_enter Tryz.func177,Tryz.ntmps177
 go_wp2_with (first
  |(go_at_call 158;(with_reducible refine K1.out.mono ?_);rintro e w2 ⟨v2,rfl,hob2,hb2⟩
    have HB2:=vJ (hb1.trans (hb2.mono hb1.size)))
  |(go_at_call 196;(with_reducible refine(K2.out _ _ hob2.bsl).mono ?_);rintro e w3 ⟨v3,rfl,hob3,hb3⟩))
 go_ret;exact⟨_,rfl,hob3.more HB2.out.size,HB2.out.trans (hb3.mono HB2.out.size)⟩
theorem Kd(S:TypeId)(hS:Ae.underlying S=Z (.slice 49)){ops:Array BS}{o:BS}{a:Act}{w:Y}{K:Act->Y->Prop}{Q:Exit->Act->Y->Prop}{X:Prop}(Dn:o.guard=J)(s y:Operand)
 (ho:o.op=.call { callee:=.builtin .append,args:=#[s,y],argTypes:=#[S,S] })
 (B E:Nat) (pM:E<=B) (v:I) (L:List (List Int)) (hs:a.eval s=v) (hown:BB2 w B E v L) (u:I) (M:List (List Int)) (hy:a.eval y=u) (hr:BBE w E u M)
 (hlen:L.length+M.length<=1000000) (hB:B<=w.heap.size)
 (h:∀ v' w',BB2 w' B E v' (L ++ M)->At B w w'->w.grownBy w' v.ownBlock->K (a.put o.dst v') w'):
 if Region.wanted o (yielded ops a.tmps)=AL then BS.wp Ae o a w K Q else X:=by
 have hw:Region.wanted o (yielded ops a.tmps)=AL:=by simp[Region.wanted,Dn]
 rw[AC hw];obtain⟨v',w',hr,h2,h3,h4⟩:=Iy S hS w B E pM o.type v L hown u M hr hlen hB;unfold BS.wp execOp;simp only[ho,resolve,invoke,builtin,DE,Sem.run_pure,Result.andThen_ok,Jd,J5,Sd,hs,hy,hr];exact h v' w' h2 h3 h4
theorem Gh{w w':Y}{row:Option Nat}(h:w.grownBy w' row)(b o:Nat)(hb:b<w.heap.size)(hne:∀ k,row=Z k->k≠b):w'.cell? ⟨b,o,J⟩=w.cell? ⟨b,o,J⟩:=by
 apply Bh;exact h.block b hb (fun e=>hne b e.symm rfl)
theorem Mb{g d n c:Nat}(h:d<g):∀ k,(Ak (Z ⟨g,0,J⟩) n c).ownBlock=Z k->k≠d:=fun k hk=>by
 obtain rfl:g=k:=by simpa [I.ownBlock] using hk
 omega
theorem g8{w:Y}{v:I}{q:Int}{N:List Int}{D:List (List Int)}(h:TxV w v q N D)(hf:GA N D=AL)(q0:0<=q)(q1:q<4294967296):
 AA Ae 166 #[v] w fun e w'=>∃ u,e=Ag (AO #[u,O Ad 0])/\BB2 w' w.heap.size 0 u (IN q N D)/\At w.heap.size w w':=by
 have h':=h;obtain⟨no,nc,ao,dc,rfl,hN,hD⟩:=h;obtain⟨f1,f2,f3⟩:=EX hf;have KH:=vJ (fun W (hb:At w.heap.size w W)=>Rg (hN.1.below hb) f1 (fun i hi=>(f3 i hi).1) q0 q1);have KC:=vJ (fun W (hb:At w.heap.size w W)=>QF (hD.below hb) (by omega) (fun j=>by
  by_cases hj:j<N.length
  . rw[(f3 j hj).2.1];omega
  . rw[An,A5 (by omega)];exact AX _) 0 (AX _))
 have KE:=vJ (fun W=>Uo W q0 q1);have hD37:D.length<=37:=by omega
 have HL1:Hid ([BU (Cw q N)].length+D.length<=1000000):=vJ (by simp;omega);have HL2:Hid (([BU (Cw q N)] ++ D).length<=100000):=vJ (by simp;omega);have HPK:Hid (IN q N D=([BU (Cw q N)] ++ D) ++ [BU (Ec q)]):=vJ rfl;have HLH:Hid ((BU (Cw q N)).length=256):=vJ (Dt _ (by rw[Gu];omega));have HLE:Hid ((BU (Ec q)).length=256):=vJ (Dt _ (by rw[Lq];omega));obtain⟨n,hn⟩:=nm N.length;obtain⟨m,hm⟩:=nm D.length;rw[<- hn] at KH h' |-
 rw[<- hm] at KC h' |-
 have hbx:=Ay w (Ar #[O .u32 q,Ak no n nc,Ak ao m dc] 180);have E5:=Aw w (Ar #[O .u32 q,Ak no n nc,Ak ao m dc] 180);have KF:=vJ (WY (h'.below hbx) AL hf);generalize BU (Cw q N)=HB at KH HL1 HL2 HPK HLH;generalize BU (Ec q)=EB at KE HPK HLE;clear hN hD hn hm h' hf f1 f2 f3 hD37 q0 q1;go_enter Tryz.func166,Tryz.ntmps166;go_upto_region 1 with(fail)
 have PI:w.heap.size<(w.alloc (Ar #[O .u32 q,Ak no n nc,Ak ao m dc] 180)).heap.size:=by simp
 generalize w.alloc (Ar #[O .u32 q,Ak no n nc,Ak ao m dc] 180)=u at hbx E5 KF PI |-
 have d0:u.cell? ⟨w.heap.size,0,J⟩=Z (O .u32 q):=by rw[Az _ _ _ _ _ _ E5];rfl
 have d1:u.cell? ⟨w.heap.size,1,J⟩=Z (Ak no n nc):=by rw[Az _ _ _ _ _ _ E5];rfl
 have d2:u.cell? ⟨w.heap.size,2,J⟩=Z (Ak ao m dc):=by rw[Az _ _ _ _ _ _ E5];rfl
 clear E5;go_wp2_with (go_at_call 180;(with_reducible refine KF.out.mono ?_);rintro e w2 ⟨rfl,hb2⟩)
 have HB2:Hid (At w.heap.size w w2.drew):=vJ (A2 (hbx.trans (hb2.mono hbx.size)) 1);have e0:w2.drew.cell? ⟨w.heap.size,0,J⟩=Z (O .u32 q):=(hb2.cell (p:=⟨w.heap.size,0,J⟩) PI).trans d0;have e1:w2.drew.cell? ⟨w.heap.size,1,J⟩=Z (Ak no n nc):=(hb2.cell (p:=⟨w.heap.size,1,J⟩) PI).trans d1;have e2:w2.drew.cell? ⟨w.heap.size,2,J⟩=Z (Ak ao m dc):=(hb2.cell (p:=⟨w.heap.size,2,J⟩) PI).trans d2;have JG:w.heap.size<w2.drew.heap.size:=AH PI hb2.size;obtain⟨d,hd⟩:=nm w.heap.size;rw[<- hd] at HB2 e0 e1 e2 JG KH KC |-
 have HD:=vJ hd;clear d0 d1 d2 hbx hb2 PI KF hd
 go_region_held3 (fun W=>W.cell? ⟨d,0,J⟩=Z (O .u32 q)/\W.cell? ⟨d,1,J⟩=Z (Ak no n nc)/\W.cell? ⟨d,2,J⟩=Z (Ak ao m dc)) (first|exact⟨i0,i1,i2⟩|exact⟨h0 _,h1 _,h2 _⟩|exact⟨g0,g1,g2⟩|exact⟨f0' _,f1' _,f2' _⟩|exact⟨f0,f1,f2⟩|exact⟨e0,e1,e2⟩) (first
  |(go_at_call 183;(with_reducible refine(KH.out _ HB2.out).mono ?_);rintro e w3 ⟨v3,rfl,hob3,hb3⟩
    obtain⟨ho,hc,rfl,_⟩:=hob3.bsl.shape;have HO3:=vJ (hob3.elt (B:=0));rw[HLH.out] at HO3 |-
    have f0:=(hb3.cell (p:=⟨d,0,J⟩) JG).trans e0;have f1:=(hb3.cell (p:=⟨d,1,J⟩) JG).trans e1;have f2:=(hb3.cell (p:=⟨d,2,J⟩) JG).trans e2;have J7:=AH JG hb3.size;have f0':=fun o=>((Ay w3 o).cell (p:=⟨d,0,J⟩) J7).trans f0
    have f1':=fun o=>((Ay w3 o).cell (p:=⟨d,1,J⟩) J7).trans f1
    have f2':=fun o=>((Ay w3 o).cell (p:=⟨d,2,J⟩) J7).trans f2
    have HB3:=vJ (HB2.out.trans (hb3.mono (BO JG)));clear hob3)
  |(go_at_call 179;(with_reducible refine(KC.out w3 HB3.out).mono ?_);rintro e w4 ⟨v4,rfl,hv4,hb4⟩
    have g0:=(hb4.cell (p:=⟨d,0,J⟩) J7).trans f0;have g1:=(hb4.cell (p:=⟨d,1,J⟩) J7).trans f1;have g2:=(hb4.cell (p:=⟨d,2,J⟩) J7).trans f2;have Si:=AH J7 hb4.size;have h0:=fun o=>((Ay w4 o).cell (p:=⟨d,0,J⟩) Si).trans g0
    have h1:=fun o=>((Ay w4 o).cell (p:=⟨d,1,J⟩) Si).trans g1
    have h2:=fun o=>((Ay w4 o).cell (p:=⟨d,2,J⟩) Si).trans g2
    have HO4:=vJ (HO3.out.below hb4);have HV4:=vJ hv4.be;have HB4:=vJ (HB3.out.trans (hb4.mono (BO J7))))
  |(go_at_call 179;(with_reducible refine(KC.out (w3.alloc _) (HB3.out.trans ((Ay w3 _).mono (BO J7)))).mono ?_);rintro e w4 ⟨v4,rfl,hv4,hb4⟩
    have tJ:d<(w3.alloc (Ar #[Ak ho 256 hc] 49)).heap.size:=(by simp;omega);have g0:=(hb4.cell (p:=⟨d,0,J⟩) tJ).trans (f0' _);have g1:=(hb4.cell (p:=⟨d,1,J⟩) tJ).trans (f1' _);have g2:=(hb4.cell (p:=⟨d,2,J⟩) tJ).trans (f2' _);have HO4:=vJ ((T4 HO3.out (BO J7)).below hb4);have HV4:=vJ hv4.be;have Si:=AH tJ hb4.size;have HB4:=vJ ((HB3.out.trans ((Ay w3 _).mono (BO J7))).trans (hb4.mono (BO tJ))))
  |(refine Kd 63 Tryz.underlying63 rfl (.tmp 13) (.tmp 16) rfl d 0 (AX _) _ [HB] rfl HO4.out v4 D rfl HV4.out HL1.out (BO Si) ?_
    intro v5 w5 hv5 hb5 TU;have i0:=(Gh TU d 0 Si (Mb J7)).trans g0;have i1:=(Gh TU d 1 Si (Mb J7)).trans g1;have i2:=(Gh TU d 2 Si (Mb J7)).trans g2;have HB5:=vJ (HB4.out.trans hb5))
  |(refine Kd 63 Tryz.underlying63 rfl (.tmp 13) (.tmp 16) rfl d 0 (AX _) _ [HB] rfl (T4 HO4.out (BO Si)) v4 D rfl (HV4.out.below (Ay w4 _)) HL1.out (AT (BO Si) (Ay w4 _).size) ?_
    intro v5 w5 hv5 hb5 TU;have i0:=(Gh TU d 0 (AH Si (Ay w4 _).size) (Mb Si)).trans (h0 _);have i1:=(Gh TU d 1 (AH Si (Ay w4 _).size) (Mb Si)).trans (h1 _);have i2:=(Gh TU d 2 (AH Si (Ay w4 _).size) (Mb Si)).trans (h2 _);have HB5:=vJ ((HB4.out.trans ((Ay w4 _).mono (BO Si))).trans hb5)))
 all_goals (
  have HBG:=vJ (by have:=HB5.out.size;rw[<- HD.out] at this;exact this);have HV5:=vJ hv5;clear g0 g1 g2 i1 i2 e0 e1 e2 f0 f1 f2 hv5 hv4
  go_wp2_with (first
   |(go_at_call 177;(with_reducible refine(KE.out _).mono ?_);rintro e w6 ⟨v6,rfl,hob6,hb6⟩
     obtain⟨eo,ec,rfl,_⟩:=hob6.bsl.shape;have HO6:=vJ (hob6.elt (B:=0));rw[HLE.out] at HO6 |-
     have HV6:=vJ (HV5.out.below hb6);have HG6:=vJ (AT HBG.out hb6.size);have HB6:=vJ (HB5.out.trans (hb6.mono HBG.out));clear hob6)
   |(at_builtin;refine G0 63 Tryz.underlying63 w6 (Ak eo 256 ec) EB rfl (.tmp 18) (.tmp 22) rfl d 0 (AX _) v5 ([HB] ++ D) rfl HV6.out HO6.out w6.heap.size rfl rfl HL2.out HG6.out ?_;intro v7 w7 hv7 hb7))
  go_ret2;exact⟨_,rfl,by rw[HPK.out,<- HD.out];exact hv7,by rw[<- HD.out];exact HB6.out.trans hb7⟩)
def UZ(n:Int):Bool:=decide (0<=n/\n<=767)
def FP(l:List Int):Bool:=l.all UZ
theorem Ft(l:List Int):FP l=AL ↔ ∀ j,j<l.length->UZ (l.getD j 0)=AL:=by
 unfold FP;rw[DJ];constructor
 . intro h j hj
   have:l.getD j 0=l[j]:=(by simp[hj]);rw[this];exact h _ (Bf hj)
 . intro h x hx
   obtain⟨j,hj,rfl⟩:=BW hx;have:=h j hj
   simpa [hj] using this
theorem bi{l:List Int}{k:Nat}(hk:k<l.length)(h:UZ (l.getD k 0)=AI):FP l=AI:=by
 cases hl:FP l
 . rfl
 . have:=(Ft l).1 hl k hk
   rw[h] at this;cases this
theorem ct(A B:List Int)(n:Int)(k:Nat)(h:0<=n)(h1:n<256 ^ k):Cc (A ++ (BN n k ++ B)) A.length k=n:=by
 unfold Cc;rw[List.drop_left,Dl (Bc n k),Kq n k h];exact Dw h h1
def O4(l:List Int):Nat->List Int
 |0=>[]
 |k+1=>O4 l k ++ BN (l.getD k 0) 2
theorem Ge(l:List Int):∀ k,(O4 l k).length=2*k
 |0=>rfl
 |k+1=>by rw[O4,Ax,Ge l k,Bc];omega
def FO(l:List Int):List Int:=O4 l 128
def XQ(b:List Int)(k:Nat):List Int:=(Co k).map fun j=>Cc b (2*j) 2
theorem IC(b:List Int)(k:Nat):(XQ b k).length=k:=by simp[XQ]
def I6(b:List Int)(n k:Nat):List Int:=(Co n).map fun j=>if j<k then Cc b (2*j) 2 else 0
theorem GP(b:List Int)(n k:Nat):(I6 b n k).length=n:=by simp[I6]
theorem ZL(b:List Int)(n k:Nat):(I6 b n k).set k (Cc b (2*k) 2)=I6 b n (k+1):=by
 apply Bi (by rw[AJ,GP,GP]);intro i h1 h2;simp only[I6,Cz,Ct,Cg];by_cases e:k=i
 . subst e;rw[AC rfl,AC (by omega)]
 . rw[AE e]
   by_cases h:i<k
   . rw[AC h,AC (by omega)]
   . rw[AE h,AE (by omega)]
theorem V7(b:List Int)(n:Nat):I6 b n 0=AD n 0:=by
 rw[List.eq_replicate_iff];refine⟨GP b n 0,fun x hx=>?_⟩;obtain⟨i,_,rfl⟩:=Cq.1 hx;rw[AE (by omega)]
theorem XB(b:List Int)(n:Nat):I6 b n n=XQ b n:=by
 unfold I6 XQ;apply CN;intro i hi;rw[AC (Bo.1 hi)]
theorem ZU(l:List Int)(i:Nat):∀ j,i<j->∃ B,O4 l j=O4 l i ++ (BN (l.getD i 0) 2 ++ B):=by
 intro j;induction j with
 |zero=>intro h;omega
 |succ j ih=>
  intro h;by_cases e:i=j
  . subst e;exact⟨[],by rw[O4];simp⟩
  . obtain⟨B,hB⟩:=ih (by omega)
    exact⟨B ++ BN (l.getD j 0) 2,by rw[O4,hB];simp⟩
theorem inB_iff{n:Int}:UZ n=AL ↔ 0<=n/\n<=767:=decide_eq_true_iff
theorem jJ{l:List Int}(hl:l.length=128)(h:FP l=AL):XQ (FO l) 128=l:=by
 apply Bi (by rw[IC,hl]);intro i h1 h2;have hi:i<128:=by rw[IC] at h1;exact h1
 obtain⟨B,hB⟩:=ZU l i 128 hi;have hb:=inB_iff.1 ((Ft l).1 h i (by omega));have e:l.getD i 0=l[i]:=by simp[h2]
 simp only[XQ,Ct,Cg];rw[FO,hB,<- Ge l i,ct _ _ _ _ hb.1 (by have:(256:Int) ^ 2=65536:=rfl;omega),e]
def mo(b:List Int):Prop:=b.length=256/\FP (XQ b 128)=AL
theorem oh{l:List Int}(hl:l.length=128)(h:FP l=AL):mo (FO l):=⟨by rw[FO,Ge],by rw[jJ hl h];exact h⟩
theorem i5{l:List Int}(h:∀ x∈l,0<=x/\x<=255)(a:Nat):0<=Cc l a 2/\Cc l a 2<=65535:=by
 have:=D4 h a 2;have e:(256:Int) ^ 2=65536:=rfl;omega
theorem MN(n m:Int)(B:Bool)(h:decide (0<=n/\n<=m)=B)(w:Y):AA Ae 122 #[O Ad n,O Ad m] w fun e w'=>e=Ag (A1 B)/\w=w':=by
 by_cases h0:0<=n
 . by_cases h1:n<=m
   . obtain rfl:B=AL:=by rw[<- h];exact AF ⟨h0,h1⟩
     clear h;go_enter Tryz.func122,Tryz.ntmps122;go_wp2;go_ret;exact⟨rfl,rfl⟩
   . obtain rfl:B=AI:=by rw[<- h];exact AG fun h=>h1 h.2
     clear h;go_enter Tryz.func122,Tryz.ntmps122;go_wp2;go_ret;exact⟨rfl,rfl⟩
 . obtain rfl:B=AI:=by rw[<- h];exact AG fun h=>h0 h.1
   clear h;go_enter Tryz.func122,Tryz.ntmps122;go_wp2;go_ret;exact⟨rfl,rfl⟩
theorem Kn(n:Int)(B:Bool)(h:UZ n=B)(w:Y):AA Ae 124 #[O Ad n] w fun e w'=>e=Ag (A1 B)/\w=w':=by
 have K:=vJ (MN n 767 B h);clear h;go_enter Tryz.func124,Tryz.ntmps124;go_wp2_with (go_at_call 122;refine(K.out _).mono ?_;rintro e w' ⟨rfl,rfl⟩)
 go_ret;exact⟨rfl,rfl⟩
theorem OT(n:Int)(B:Bool)(h:UZ n=B)(w:Y):AA Ae 142 #[O Ad n] w fun e w'=>e=Ag (A1 B)/\w=w':=by
 by_cases h0:0<=n
 . by_cases h1:n<=767
   . obtain rfl:B=AL:=by rw[<- h];exact AF ⟨h0,h1⟩
     clear h;go_enter Tryz.func142,Tryz.ntmps142;go_wp2;go_ret;exact⟨rfl,rfl⟩
   . obtain rfl:B=AI:=by rw[<- h];exact AG fun h=>h1 h.2
     clear h;go_enter Tryz.func142,Tryz.ntmps142;go_wp2;go_ret;exact⟨rfl,rfl⟩
 . obtain rfl:B=AI:=by rw[<- h];exact AG fun h=>h0 h.1
   clear h;go_enter Tryz.func142,Tryz.ntmps142;go_wp2;go_ret;exact⟨rfl,rfl⟩
theorem Uc{w:Y}{v:I}{l:List Int}(hs:ISl w v l)(hl:l.length<=1000000):AA Ae 123 #[v] w fun e w'=>e=Ag (A1 (FP l))/\w=w':=by
 obtain⟨ao,cap,rfl,hc⟩:=hs.open';have C6:=fun k hk h=>bi (l:=l) (k:=k) hk h
 have EI:=(Ft l).2;obtain⟨R,hR⟩:=nm (FP l);rw[<- hR] at C6 EI |-
 obtain⟨N,hN⟩:=nm l.length;rw[<- hN] at hc C6 EI hl |-
 have HC:=vJ hc;have HNO:=vJ C6;have HYE:=vJ EI;clear hc C6 EI hR hs hN;go_enter Tryz.func123,Tryz.ntmps123;go_wp2
 go_loop [7] (fun i=>∃ k:Nat,k<=N/\i=O Ad k/\Hid (∀ j,j<k->UZ (l.getD j 0)=AL)) (fun i=>N-(intOf i).toNat)
 case atStart=>exact⟨0,by omega,rfl,fun j hj=>absurd hj (A8 _)⟩
 case round=>
  obtain⟨k,hk,rfl,HK⟩:=hrel;by_cases hlt:k<N
  . obtain⟨b,off,rfl,_,hcc⟩:=HC.out (by omega)
    have hck:=hcc k hlt;have hn1:=HNO.out k hlt;obtain⟨x,hx⟩:=nm (l.getD k 0);rw[<- hx] at hck hn1;have HX:=vJ hx;have HN1:=vJ hn1;have ek:(k:Int)<(N:Int):=(by omega);clear hx hcc hn1;cases hf:UZ x
    . have HF:=vJ hf
      have hR:=HN1.out hf;subst hR;clear hf;go_wp2_with (go_at_call 124;refine(Kn x _ HF.out _).mono ?_;rintro e w' ⟨rfl,rfl⟩)
      go_ret;exact⟨rfl,rfl⟩
    . have HF:=vJ hf
      clear hf;go_wp2_with (go_at_call 124;refine(Kn x _ HF.out _).mono ?_;rintro e w' ⟨rfl,rfl⟩)
      go_round
      case rel=>
       refine⟨k+1,by omega,by go_num,fun j hj=>?_⟩;by_cases e:j=k
       . subst e;rw[<- HX.out];exact HF.out
       . exact HK.out j (by omega)
      case measure=>simp[intOf];omega
  . obtain rfl:k=N:=by omega
    have hR:=HYE.out HK.out;subst hR;go_wp2;go_ret;exact⟨rfl,rfl⟩
theorem IY{w:Y}{v:I}{l:List Int}(hs:ISl w v l)(hl:l.length<=1000000)(B:Bool)(h:FP l=B):AA Ae 123 #[v] w fun e w'=>e=Ag (A1 B)/\w=w':=by
 rw[<- h];exact Uc hs hl
theorem gJ(n:Int)(h:n<1\/47<n)(w:Y):AA Ae 117 #[O Ad n] w fun e w'=>e=Ag (AO #[O Ad (-1),O Ad (-1)])/\w=w':=by
 by_cases h0:n<1
 . clear h
   go_enter Tryz.func117,Tryz.ntmps117;go_wp2;go_ret2;exact⟨rfl,rfl⟩
 . have h1:48<=n:=by omega
   clear h;go_enter Tryz.func117,Tryz.ntmps117;go_wp2;go_ret2;exact⟨rfl,rfl⟩
theorem Zm(n:Int)(h0:1<=n)(h1:n<=47)(w:Y):AA Ae 117 #[O Ad n] w fun e w'=>e=Ag (AO #[O Ad (n / 8),O Ad (n%8)])/\w=w':=by
 go_enter Tryz.func117,Tryz.ntmps117;go_wp2;go_ret2;exact⟨rfl,rfl⟩
theorem Ri{w:Y}{v:I}{c:List Int}(hs:BSl w v c)(hc:c.length<=100000)(a k:Nat)(A K:Int)(hA:A=a)(hK:K=k)(hk1:1<=k)(hk:k<=8)(ha:a+k<=c.length)(y:Int)(hy:y=Cc c a k):
 AA Ae 181 #[v,O Ad A,O Ad K] w fun e w'=>e=Ag (AO #[O .u64 y,A1 AL])/\w=w':=by
 subst hA hK;have hg:=NO hs (by omega) (a:Int) k (by omega) (by omega);have hn:Mg c (a:Int) k=y:=by unfold Mg;rw[AC (by omega),hy];rfl
 have hb:SB c (a:Int) k=AL:=AF (by omega);rw[hn,hb] at hg;exact hg
theorem Uf(w:Y)(M:Nat)(hM:M<=1000):OB (w.alloc (Ar (A3 M (O .u8 0)) 5)) w.heap.size (Ak (Z ⟨w.heap.size,0,J⟩) 0 M) []:=
 OB.of_heap (w:=w.alloc (Ar (A3 M (O .u8 0)) 5)) (B:=w.heap.size) (g:=w.heap.size) (cap:=M) (l:=[]) (rest:=AD M (O .u8 0)) Gq (AB _) (by rw[Aw];simp) (by simp) (by unfold maxLen;omega)
theorem NU(w:Y){ops:Array BS}{rest:List BS}{o:BS}{a:Act}{Q:Exit->Act->Y->Prop}
 (hg:o.guard=J) (l c:Operand) (Mr:o.op=Op.makeSlice 175 l c) (C:Int) (n:Nat) (hl:a.eval l=O .u64 C) (hc:a.eval c=O .u64 C) (hC:C=n) (hn:n<=1000000)
 (hK:Cn Ae ops Q rest (a.put o.dst (Ak (Z ⟨w.heap.size,0,J⟩) n n)) (w.alloc (iO (AD n 0) 3))):
 Cn Ae ops Q (o :: rest) a w:=by
 refine CM hg fun K hK'=>?_
 obtain⟨i,h2,h3,h4,h5⟩:=By Uy;subst hC;have DY:=run_make (P:=Ae) w 175 3 i (O Ad 0) Tryz.underlying175 h2 h3 .u64 .u64 n n (by omega) (by omega) (by rw[h5];omega) (by omega);unfold BS.wp;simp only[B5,h4,Nat.mul_one,Xv] at DY;simp[execOp,Mr,hl,hc,DY,Result.andThen];exact hK' _ _ hK
def RowI(w:Y)(g:Nat)(N:List Int)(k:Nat):Prop:=∃ l:List Int,l.length=N.length/\w.heap[g]? =Z (iO l 3)/\∀ j,j<k->l.getD j 0=N.getD j 0
theorem RowI.make(w:Y)(N:List Int):RowI (w.alloc (iO (AD N.length 0) 3)) w.heap.size N 0:=
 ⟨AD N.length 0,A4,Aw w _,fun j hj=>absurd hj (A8 _)⟩
theorem RowI.row{w:Y}{g:Nat}{N:List Int}{k:Nat}(h:RowI w g N k):∃ l:List Int,l.length=N.length/\w.heap[g]? =Z (iO l 3):=by
 obtain⟨l,h1,h2,_⟩:=h;exact⟨l,h1,h2⟩
theorem RowI.set{w:Y}{g:Nat}{N:List Int}{k:Nat}(h:RowI w g N k)(hk:k<N.length){y:Int}(hy:y=N.getD k 0):RowI (w.setCell ⟨g,k,J⟩ (O Ad y)) g N (k+1):=by
 obtain⟨l,h1,h2,h3⟩:=h;refine⟨l.set k y,by rw[AJ];exact h1,Vb h2 k y,fun j hj=>?_⟩;by_cases e:j=k
 . subst e
   have MY:j<l.length:=(by omega);rw[<- hy];simp[MY]
 . rw[An,Bw (by omega),<- An]
   exact h3 j (by omega)
theorem RowI.done{w:Y}{B g:Nat}{N:List Int}(h:RowI w g N N.length)(hB:B<=g)(hm:N.length<=1000000):IR w B (Ak (Z ⟨g,0,J⟩) N.length N.length) N:=by
 obtain⟨l,h1,h2,h3⟩:=h;have e:l=N:=by
  apply Bi h1;intro i a b;have:=h3 i b
  simpa [a,b] using this
 subst e;exact IR.of_row hB h2 (by unfold maxLen;omega)
theorem IR.more9{w:Y}{B:Nat}{v:I}{l:List Int}(h:IR w B v l):IR w 0 v l:=by
 refine⟨h.1,?_⟩;rcases h.2 with h| ⟨g,cap,cur,hv,hg,r⟩
 . exact AN h
 . exact Ba ⟨g,cap,cur,hv,AX _,r⟩
theorem SI{w:Y}{v:I}{c:List Int}{N:List Int}(hs:BSl w v c)(hc:c.length=252)(Ki:N.length<=37)(hcnt:Cc c 8 2=(N.length:Int))(tK:∀ i,i<N.length->Cc c (10+2*i) 2=N.getD i 0)
 (hx:∀ i,i<N.length->0<=N.getD i 0/\N.getD i 0<=65535) (B:Bool) (hB:ES N=B):
 AA Ae 182 #[v] w fun e w'=>∃ u,e=Ag (AO #[u,A1 B])/\IR w' 0 u N/\At w.heap.size w w':=by
 have KN:=vJ (fun W u (h:ISc W u N)=>S9 h);rw[hB] at KN;have K8:=vJ (Ri hs (by omega) 8 2 8 2 rfl rfl (by omega) (by omega) (by omega) _ hcnt.symm);have KG:=vJ (fun W (hb:At w.heap.size w W) i (hi:i<N.length) (A:Int) (hA:A=((10+2*i:Nat):Int))=>Ri (hs.below hb) (by omega) (10+2*i) 2 A 2 hA rfl (by omega) (by omega) (by omega) _ (tK i hi).symm);have HX:=vJ hx;have HR0:=vJ (RowI.make w N);have HDN:=vJ (fun W (h:RowI W w.heap.size N N.length)=>(h.done (AB _) (by omega)).more9);have HST:=vJ (fun W k (h:RowI W w.heap.size N k) hk y hy=>h.set hk (y:=y) hy);have HRW:=vJ (fun W k (h:RowI W w.heap.size N k)=>h.row);obtain⟨ao,cap,rfl,_⟩:=hs.shape;obtain⟨n,hn⟩:=nm N.length;rw[<- hn] at K8 KG HX HR0 HDN HST HRW Ki;rw[hc] at K8 KG |-
 have hbx:=Ay w (iO (AD n 0) 3);have hn37:¬ (37:Int)<(n:Int):=by omega
 have Vs:n<=1000000:=by omega
 clear hs hc hcnt tK hx hB hn;go_enter Tryz.func182,Tryz.ntmps182
 go_wp2_with (first
  |(go_at_call 181;(with_reducible refine K8.out.mono ?_);rintro e w2 ⟨rfl,rfl⟩)
  |(at_make;refine NU w rfl _ _ rfl (n:Int) n rfl rfl rfl Vs ?_))
 generalize w.alloc (iO (AD n 0) 3)=w1 at hbx HR0 |-
 have HBX:=vJ hbx;obtain⟨g,hg⟩:=nm w.heap.size;rw[<- hg] at HR0 HDN HST HRW |-
 have HG:=vJ hg;clear hbx hg;go_loopw [21] (fun i wr=>∃ k:Nat,k<=n/\i=O Ad k/\Hid (RowI wr g N k)/\Hid (At w.heap.size w wr)) (fun i _=>n-(intOf i).toNat)
 case atStart=>exact⟨0,by omega,rfl,HR0,HBX⟩
 case round=>
  obtain⟨k,hk,rfl,HR,HB⟩:=hrel;clear HR0 HBX K8;by_cases hlt:k<n
  . have KK:=vJ (KG.out _ HB.out k hlt (10+(k:Int)*2) (by push_cast;omega))
    obtain⟨x0,x1⟩:=HX.out k hlt;obtain⟨l,hl1,Mu⟩:=HRW.out _ k HR.out;have hst:=HST.out _ k HR.out hlt _ rfl;obtain⟨x,Sl⟩:=nm (N.getD k 0);rw[<- Sl] at KK x0 x1 hst;have HS1:=vJ hst;have hfz:=Qm Mu k;have cG:∃ z,wr.cell? ⟨g,k,J⟩=Z z:=by
     by_cases hkl:k<l.length
     . exact⟨_,GC Mu k hkl⟩
     . exact absurd (AH hlt (Nat.le_of_not_lt fun h=>hkl (by omega))) (Nat.lt_irrefl _)
    obtain⟨z,hz⟩:=cG;have ek:(k:Int)<(n:Int):=(by omega);have pJ:Ad.wrap x=x:=A9 _ (by omega);clear Sl hst hl1 Mu;go_wp2_with (go_at_call 181;(with_reducible refine KK.out.mono ?_);rintro e w2 ⟨rfl,rfl⟩)
    go_roundw
    case rel=>exact⟨k+1,by omega,by go_num,HS1,HB.out.trans ((Wrote.setCell wr g k _).below (by rw[HG.out];exact AB _))⟩
    case measure=>simp[intOf];omega
  . obtain rfl:k=n:=by omega
    have KF:=vJ (KN.out _ _ (HDN.out _ HR.out).isc);go_wp2_with (go_at_call 200;(with_reducible refine KF.out.mono ?_);rintro e w2 ⟨rfl,rfl⟩)
    go_ret2;exact⟨_,rfl,HDN.out _ HR.out,HB.out⟩
theorem Jo{w:Y}{v:I}{q:Int}{N:List Int}{L:List (List Int)}(hs:BBSl w v L)(h0:0<L.length)(hh:L.getD 0 []=BU (Cw q N))(hN:ES N=AL)(q0:0<=q)(q1:q<4294967296):
 AA Ae 153 #[v] w fun e w'=>∃ u,e=Ag (AO #[O .u32 q,u,A1 AL])/\IR w' 0 u N/\At w.heap.size w w':=by
 obtain⟨Ki,hx⟩:=GU hN;have cH:(Cw q N).length<=252:=by rw[Gu];omega
 have cC:=EU _ cH;obtain⟨ao,cap,rfl,_,hc⟩:=hs.open';obtain⟨b,off,rfl,hb,hcc⟩:=hc h0;obtain⟨u0,Ol,hb0⟩:=hcc 0 h0;rw[hh] at hb0;rw[Nat.add_zero] at Ol;obtain⟨uo,uc,rfl,_⟩:=hb0.shape;have Oe:=Dt _ cH;rw[Oe] at Ol hb0;have KO:=vJ (Kt hb0 (JS _ cH));rw[SO q N Ki] at KO;have K4:=vJ (fun W v (h:BSl W v (DM (Cw q N)))=>Ri h (by omega) 4 4 4 4 rfl rfl (by omega) (by omega) (by omega) q (Xq q N q0 q1).symm);have KR:=vJ (fun W v (h:BSl W v (DM (Cw q N)))=>SI h cC Ki (Sc q N Ki) (fun i hi=>PH q N i hi (hx i hi)) (fun i hi=>⟨(hx i hi).1,by have:=(hx i hi).2;omega⟩) AL hN);have KH:=vJ (fun W u (h:IR W 0 u N)=>Rg h.sl Ki hx q0 q1);have HU0:=vJ hb0;generalize BU (Cw q N)=HS at KO KH HU0;generalize DM (Cw q N)=HC at KO K4 KR;obtain⟨m,hm⟩:=nm L.length;rw[<- hm] at h0 |-
 have FH:¬ (m:Int)=0:=by omega
 have hm1:((m:Int)==0)=AI:=by simpa using FH
 have hm2:(0:Int)<(m:Int):=by omega
 have sJ:IntKind.u32.wrap q=q:=IntWalk.u32_in _ (by omega);clear hs hc hh hcc hb0 Oe cC cH hx hN Ki q0 q1 hm;go_enter Tryz.func153,Tryz.ntmps153
 go_wp2_with (first
  |(go_at_call 168;(with_reducible refine KO.out.mono ?_);rintro e w2 ⟨v2,rfl,hob2,hb2⟩
    have HV2:=vJ hob2.bsl;have HB2:=vJ hb2)
  |(go_at_call 181;(with_reducible refine(K4.out _ _ HV2.out).mono ?_);rintro e w3 ⟨rfl,rfl⟩)
  |(go_at_call 182;(with_reducible refine(KR.out _ _ HV2.out).mono ?_);rintro e w4 ⟨v4,rfl,hv4,hb4⟩))
 have HB4:Hid (At w.heap.size w w4.drew):=vJ (A2 (HB2.out.trans (hb4.mono HB2.out.size)) 1);have HV4:Hid (IR w4.drew 0 v4 N):=vJ hv4;have e0:w4.drew.cell? ⟨b,off,J⟩=Z (Ak uo 256 uc):=(HB4.out.cell (p:=⟨b,off,J⟩) hb).trans Ol;have Si:b<w4.drew.heap.size:=AH hb HB4.out.size;have HU4:=vJ (HU0.out.below HB4.out);clear hob2 hb2 hv4 hb4 Ol HU0
 go_region_held3 (fun W=>W.cell? ⟨b,off,J⟩=Z (Ak uo 256 uc)) (first|exact f0|exact e0) (first
  |(go_at_call 183;(with_reducible refine(KH.out _ _ HV4.out).mono ?_);rintro e w5 ⟨v5,rfl,hob5,hb5⟩
    have f0:=(hb5.cell (p:=⟨b,off,J⟩) Si).trans e0;have K6:=vJ (EC hob5.bsl (HU4.out.below hb5));rw[AF (rfl:HS=HS)] at K6;have HB5:=vJ (HB4.out.trans (hb5.mono HB4.out.size));have HV5:=vJ (HV4.out.below hb5))
  |(go_at_call 156;(with_reducible refine K6.out.mono ?_);rintro e w6 ⟨rfl,rfl⟩))
 go_wp2;go_ret3;exact⟨_,rfl,HV5.out,HB5.out⟩
theorem nO{w:Y}{v:I}{q:Int}{N:List Int}{L:List (List Int)}(hs:BBSl w v L)(h0:0<L.length)(hh:L.getD 0 []=BU (Cw q N))(hN:ES N=AL)(q0:0<=q)(q1:q<4294967296):
 AA Ae 105 #[v] w fun e w'=>e=Ag (AO #[O .u32 q,A1 AL])/\At w.heap.size w w':=by
 have K:=vJ (Jo hs h0 hh hN q0 q1);clear hs h0 hh hN q0 q1;go_enter Tryz.func105,Tryz.ntmps105;go_wp2_with (go_at_call 153;(with_reducible refine K.out.mono ?_);rintro e w2 ⟨v2,rfl,ic,hb2⟩)
 go_ret2;exact⟨rfl,hb2⟩
end
end Go.Proofs.YtdefiimcmecnnaaGreat
