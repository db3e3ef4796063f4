/- What the law rests on: part 5. -/
import Derived.Test.YtedabomlfcghoaaGreatKG4
set_option linter.unusedVariables false
namespace Go.Proofs.YtedabomlfcghoaaGreat
set_option maxRecDepth 100000
open Go.RowKit
def SetWF(w:World)(B bp bf bv:Nat)(F V:List (List Int))(U:List (Nat × List Int))(fu:Bool)(le:Int)(dn:Bool)(kp:Nat->Bool)(e:Ending)(w':World):Prop:=
 e=.returned (.tuple #[])/\DskAt w' B bp bf bv (.slice none 0 0) (stF kp U F U.length) (stV U (stF kp U F U.length) V U.length) [] fu le dn/\Below B w w'/\Fr3 w w' bp bf bv
set_option maxRecDepth 100000 in
set_option maxHeartbeats 3000000 in
theorem dSettleFw{w:World}{B bp bf bv:Nat}{u:Value}{F V:List (List Int)}{U:List (Nat × List Int)}{fu dn:Bool}{le:Int}(h:DskAt w B bp bf bv u F V U fu le dn)(hBw:B<=w.heap.size)(hUl:U.length<=1000000)(kp:Nat->Bool)
 (hk:∀ W,Frm w W bf bv->∀ i,i<U.length->Calls Tryz.prog 167 #[.int .i64 i] W fun e w'=>e=.returned (.bool (kp i))/\∃ m,w'=W.drewN m):
 Calls Tryz.prog 166 #[.pointer (some ⟨bp,0,none⟩),.func (.func 167) #[] #[]] w (SetWF w B bp bf bv F V U fu le dn kp):=by
 obtain⟨ao,cap,rfl⟩:=h.shapeU;have c2:=h.c2;have HU:Hid (∀ x∈U,x.1<V.length/\Blk x.2):=h.okU;have HLen:Hid (F.length=V.length):=h.len;have HZ:=hid Zde;have HBw:=hid hBw;have HbB:Hid (B<=bp/\B<=bf/\B<=bv):=h.bB;have hdr:∀ (W:World) (m:Nat),Below W.heap.size W (W.drewN m):=fun W m=>Zab (Below.refl _ _) m
 clear hBw;go_enter Tryz.func166,Tryz.ntmps166;go_wp2_with fail
 have HD0:Hid (DskAt w B bp bf bv (.slice ao U.length cap) F V U fu le dn):=h;clear h c2
 go_loopw [13] (fun i wr=>∃ k:Nat,k<=U.length/\i=.int .i64 k/\Hid (DskAt wr B bp bf bv (.slice ao U.length cap) (stF kp U F k) V U fu le dn)/\Hid (Frm w wr bf bv))
  (fun i _=>U.length-(intOf i).toNat)
 case atStart=>exact⟨0,by omega,rfl,HD0,Frm.refl _ _ _⟩
 case round=>
  obtain⟨k,hkn,rfl,HD,HF⟩:=hrel;by_cases hlt:k<U.length
  . have hlt':(k:Int)<(U.length:Int):=by omega
    obtain⟨g,cap',hu,hgl,hr⟩:=HD.out.rangeU k hlt;obtain⟨rfl,rfl⟩:ao=some ⟨g,0,none⟩/\cap'=cap:=⟨(Value.slice.inj hu).1,(Value.slice.inj hu).2.2.symm⟩;have hx:=HU.out U[k] (List.getElem_mem _);have hgd:U.getD k (0,[])=U[k]:=by rw[List.getD_eq_getElem?_getD,List.getElem?_eq_getElem hlt];rfl
    obtain⟨⟨at_,data⟩,hxe⟩:∃ x,x=U[k]:=⟨_,rfl⟩;rw[<- hxe] at hx hr hgd;have HX:Hid (at_<V.length/\Blk data):=hx;have HR:Hid (wr.rangeAt g (k*257) (Value.int .i64 at_ :: cB data)):=hr;have HG:=hid hgd;have HL:Hid ((cB data).length=256):=by show _=_;rw[Zau,hx.2.1]
    have HL1:Hid ((Value.int .i64 at_ :: cB data).length=257):=by show _=_;rw[List.length_cons,HL.out]
    have h1c:∀ v∈(Value.int .i64 at_ :: cB data),v.oneCell'=true:=cU_one (at_,data);obtain⟨H1,hH1⟩:∃ H1,H1=wr.heap.size:=⟨_,rfl⟩;have hba:Below wr.heap.size wr (wr.alloc (.cells (Value.int .i64 at_ :: cB data).toArray 155)):=(Below.refl _ _).alloc (Nat.le_refl _) _;have hra:(wr.alloc (.cells (Value.int .i64 at_ :: cB data).toArray 155)).heap[H1]? =some (.cells (Value.int .i64 at_ :: cB data).toArray 155 (0,0)):=by rw[hH1];exact heap_alloc_last _ _
    have HK:Hid (∀ m,Frm w ((wr.alloc (.cells (Value.int .i64 at_ :: cB data).toArray 155)).drewN m) bf bv):=fun m=>(HF.out.trans (Frm.of_below hba)).trans (Frm.of_below (hdr _ m))
    have HK0:Hid (Frm w (wr.alloc (.cells (Value.int .i64 at_ :: cB data).toArray 155)) bf bv):=HF.out.trans (Frm.of_below hba);have HRA:=hid hra;have HBA:=hid hba;have HH1:=hid hH1;clear hu hr hx hgd hxe hra hba HU hH1;cases hkp:kp k
    . have HKP:=hid hkp
      go_wp2_with (first
       |(refine Zhp _ rfl _ (by rfl) g (k*257) (Value.int .i64 at_ :: cB data) (by rfl) HR.out HL1.out ?_)
       |with_reducible refine Zgs _ rfl rfl ?_
       |(refine Zgr _ rfl _ _ (by rfl) _ 155 (Value.int .i64 0 :: zB) (Value.int .i64 at_ :: cB data) (by rfl) (by rfl) (heap_alloc_last _ _) (by rw[List.length_cons,HZ.out]) HL1.out h1c ?_
         rw[World.setRow_alloc_new])
       |(go_at_call 167;refine(hk _ HK0.out k hlt).mono ?_;rintro e w2 ⟨rfl,m,rfl⟩;rw[HKP.out]))
      go_roundw
      case rel=>exact⟨k+1,by omega,by go_num,(by
       show DskAt _ B bp bf bv _ (stF kp U F (k+1)) V U fu le dn
       rw[stF,if_neg (by rw[HKP.out];decide)];exact HD.out.below (HBA.out.trans ((hdr _ m).mono HBA.out.size))),HK.out m⟩
      case measure=>simp[intOf];omega
    . have HKP:=hid hkp
      go_wp2_with (first
       |(refine Zhp _ rfl _ (by rfl) g (k*257) (Value.int .i64 at_ :: cB data) (by rfl) HR.out HL1.out ?_)
       |with_reducible refine Zgs _ rfl rfl ?_
       |(refine Zgr _ rfl _ _ (by rfl) _ 155 (Value.int .i64 0 :: zB) (Value.int .i64 at_ :: cB data) (by rfl) (by rfl) (heap_alloc_last _ _) (by rw[List.length_cons,HZ.out]) HL1.out h1c ?_
         rw[World.setRow_alloc_new])
       |(go_at_call 167;refine(hk _ HK0.out k hlt).mono ?_;rintro e w2 ⟨rfl,m,rfl⟩;rw[HKP.out]))
      obtain⟨W1,hW1⟩:∃ W1,W1=(wr.alloc (.cells (Value.int .i64 at_ :: cB data).toArray 155)).drewN m:=⟨_,rfl⟩;have hb1:Below wr.heap.size wr W1:=by rw[hW1];exact HBA.out.trans ((hdr _ m).mono HBA.out.size)
      have hf1:Frm w W1 bf bv:=by rw[hW1];exact HK.out m
      have hr1:W1.heap[H1]? =some (.cells (Value.int .i64 at_ :: cB data).toArray 155 (0,0)):=by rw[hW1];exact HRA.out
      rw[<- hW1,<- HH1.out];clear hW1;have hD1:=HD.out.below hb1;have hlt1:bp<H1/\bf<H1/\bv<H1:=by
       have e1:=(Array.getElem?_eq_some_iff.1 HD.out.hp).1;have e2:=(Array.getElem?_eq_some_iff.1 HD.out.hf).1;have e3:=(Array.getElem?_eq_some_iff.1 HD.out.hv).1;have:=HH1.out;omega
      have hne:=HD.out.ne;have hln:(stF kp U F k).length=F.length:=stF_length _ _ _ _;have haF:at_<(stF kp U F k).length:=by rw[hln,HLen.out];exact HX.out.1
      obtain⟨NF,hNF⟩:∃ NF,NF=(stF kp U F k).length:=⟨_,rfl⟩;have c0:=hD1.c0;rw[<- hNF] at c0 haF;have haF':(at_:Int)<(NF:Int):=by omega
      have r0:W1.cell? ⟨H1,0,none⟩=some (.int .i64 at_):=by rw[cell_of_row _ _ _ _ _ _ hr1];rfl
      have rL:W1.rangeAt H1 1 (cB data):=Zca hr1 (by simp);have tF:W1.there bf (at_*256) (cB data).length:=Zcp hD1.hf (by rw[HL.out,Zaw (Zcc hD1.okF)];omega);have hone2:=Zhj data;have hub:=Tryz.underlying151;have hib:(Tryz.prog.info? 151).map (·.size)=some (cB data).length:=by rw[sizeB,HL.out]
      have hlen:=HL.out;obtain⟨hD2,hwr2⟩:=HD.out.setF (W:=W1.drew) (hb1.drew) at_ (by rw[<- hNF];exact haF) data HX.out.2;have hf2:=(hf1.trans (Frm.of_below (hdr W1 1))).trans (Frm.of_wrote (g2:=bv) hwr2);have HD2:=hid hD2;have HF2:=hid hf2;have HW2:=hid hwr2;have hS1:W1.drew.cell? ⟨bp,0,none⟩=some (.slice (some ⟨bf,0,none⟩) NF NF)/\W1.drew.cell? ⟨H1,0,none⟩=some (.int .i64 at_)/\W1.drew.rangeAt H1 1 (cB data)/\W1.drew.there bf (at_*256) (cB data).length:=⟨c0,r0,rL,tF⟩;have hS2:(W1.drew.setCells bf (at_*256) (cB data)).cell? ⟨bp,0,none⟩=some (.slice (some ⟨bf,0,none⟩) NF NF)/\(W1.drew.setCells bf (at_*256) (cB data)).cell? ⟨H1,0,none⟩=some (.int .i64 at_)/\(W1.drew.setCells bf (at_*256) (cB data)).rangeAt H1 1 (cB data)/\(W1.drew.setCells bf (at_*256) (cB data)).there bf (at_*256) (cB data).length:=
       ⟨by rw[World.cell?_setCells_out _ _ _ _ _ (fun e=>absurd e hne.1)];exact c0,by rw[World.cell?_setCells_out _ _ _ _ _ (fun e=>by have e:H1=bf:=e;omega)];exact r0,World.rangeAt_setCells_apart hS1.2.2.1 _ _ _ (.inl (by omega)),World.there_setCells hS1.2.2.2 _ _ _⟩
      clear hD1 hb1 hf1 hr1 c0 r0 rL tF hD2 hwr2 hf2 hln hNF
      go_region_held (fun W=>W.cell? ⟨bp,0,none⟩=some (.slice (some ⟨bf,0,none⟩) NF NF)/\W.cell? ⟨H1,0,none⟩=some (.int .i64 at_)/\W.rangeAt H1 1 (cB data)/\W.there bf (at_*256) (cB data).length) (first|exact hS1|exact hS2) (fail)
      clear hS1 hS2;go_wp2_with fail
      go_roundw
      case rel=>exact⟨k+1,by omega,by go_num,(by
       show DskAt _ B bp bf bv _ (stF kp U F (k+1)) V U fu le dn
       rw[stF,if_pos HKP.out,HG.out];exact HD2.out),HF2.out⟩
      case measure=>simp[intOf];omega
  . obtain rfl:k=U.length:=by omega
    have hge:¬ (U.length:Int)<(U.length:Int):=by omega
    have c2:=HD.out.c2;go_wp2_with fail
    obtain⟨F1,hF1⟩:∃ F1,F1=stF kp U F U.length:=⟨_,rfl⟩;have HF1:=hid hF1;have HDa:Hid (DskAt wr B bp bf bv (.slice ao U.length cap) F1 V U fu le dn):=by rw[hF1];exact HD
    clear HD HD0 c2 hF1 hk hge hkn hlt
    go_loopw [36] (fun i wq=>∃ k:Nat,k<=U.length/\i=.int .i64 k/\Hid (DskAt wq B bp bf bv (.slice ao U.length cap) F1 (stV U F1 V k) U fu le dn)/\Hid (Frm w wq bf bv))
     (fun i _=>U.length-(intOf i).toNat)
    case atStart=>exact⟨0,by omega,rfl,HDa,HF⟩
    case round=>
     clear HDa HF;obtain⟨k,hkn,rfl,HD,HF⟩:=hrel;by_cases hlt:k<U.length
     . have hlt':(k:Int)<(U.length:Int):=by omega
       obtain⟨g,cap',hu,hgl,hr⟩:=HD.out.rangeU k hlt;obtain⟨rfl,rfl⟩:ao=some ⟨g,0,none⟩/\cap'=cap:=⟨(Value.slice.inj hu).1,(Value.slice.inj hu).2.2.symm⟩;have hx:=HU.out U[k] (List.getElem_mem _);have hgd:U.getD k (0,[])=U[k]:=by rw[List.getD_eq_getElem?_getD,List.getElem?_eq_getElem hlt];rfl
       obtain⟨⟨at_,data⟩,hxe⟩:∃ x,x=U[k]:=⟨_,rfl⟩;rw[<- hxe] at hx hr hgd;have hlenFV:F1.length=V.length:=by have:=HD.out.len;rw[Zfw] at this;exact this
       have haF:at_<F1.length:=by rw[hlenFV];exact hx.1
       have hb:Blk F1[at_]:=HD.out.okF _ (List.getElem_mem _);have hgF:F1.getD at_ []=F1[at_]:=by rw[List.getD_eq_getElem?_getD,List.getElem?_eq_getElem haF];rfl
       have hmem:=Zca HD.out.hf (o:=at_*256) (vs:=cB F1[at_]) (by rw[Zau,hb.1];exact Zfj (Zcc HD.out.okF) at_ haF);obtain⟨b,hbe⟩:∃ b,b=F1[at_]:=⟨_,rfl⟩;rw[<- hbe] at hb hgF hmem;have HX:Hid (at_<V.length/\Blk data):=hx;have HR:Hid (wr.rangeAt g (k*257) (Value.int .i64 at_ :: cB data)):=hr;have HG:=hid hgd;have HB:=hid hb;have HGF:=hid hgF;have HMEM:=hid hmem;have HL:Hid ((cB b).length=256):=by show _=_;rw[Zau,hb.1]
       have HL1:Hid ((Value.int .i64 at_ :: cB data).length=257):=by show _=_;rw[List.length_cons,Zau,hx.2.1]
       have h1c:∀ v∈(Value.int .i64 at_ :: cB data),v.oneCell'=true:=cU_one (at_,data);obtain⟨H1,hH1⟩:∃ H1,H1=wr.heap.size:=⟨_,rfl⟩;obtain⟨W1,hW1⟩:∃ W1,W1=wr.alloc (.cells (Value.int .i64 at_ :: cB data).toArray 155):=⟨_,rfl⟩;have hb1:Below wr.heap.size wr W1:=by rw[hW1];exact(Below.refl _ _).alloc (Nat.le_refl _) _
       have hr1:W1.heap[H1]? =some (.cells (Value.int .i64 at_ :: cB data).toArray 155 (0,0)):=by rw[hW1,hH1];exact heap_alloc_last _ _
       have hf1:=HF.out.trans (Frm.of_below hb1);have HW1:=hid hW1;have HH1:=hid hH1;clear hu hr hx hgd hxe hH1 hW1 hb hgF hmem hbe
       go_wp2_with (first
        |(refine Zhp _ rfl _ (by rfl) g (k*257) (Value.int .i64 at_ :: cB data) (by rfl) HR.out HL1.out ?_)
        |with_reducible refine Zgs _ rfl rfl ?_
        |(refine Zgr _ rfl _ _ (by rfl) _ 155 (Value.int .i64 0 :: zB) (Value.int .i64 at_ :: cB data) (by rfl) (by rfl) (heap_alloc_last _ _) (by rw[List.length_cons,HZ.out]) HL1.out h1c ?_
          rw[World.setRow_alloc_new]))
       rw[<- HW1.out,<- HH1.out];have hD1:=HD.out.below hb1;have hlt1:bp<H1/\bf<H1/\bv<H1:=by
        have e1:=(Array.getElem?_eq_some_iff.1 HD.out.hp).1;have e2:=(Array.getElem?_eq_some_iff.1 HD.out.hf).1;have e3:=(Array.getElem?_eq_some_iff.1 HD.out.hv).1;have:=HH1.out;omega
       have hne:=HD.out.ne;have haV:at_<(stV U F1 V k).length:=by rw[Zfw];exact HX.out.1
       obtain⟨NF,hNF⟩:∃ NF,NF=F1.length:=⟨_,rfl⟩;obtain⟨NV,hNV⟩:∃ NV,NV=(stV U F1 V k).length:=⟨_,rfl⟩;have c0:=hD1.c0;have c1:=hD1.c1;rw[<- hNF] at c0 haF;rw[<- hNV] at c1 haV;have haF':(at_:Int)<(NF:Int):=by omega
       have haV':(at_:Int)<(NV:Int):=by omega
       have r0:W1.cell? ⟨H1,0,none⟩=some (.int .i64 at_):=by rw[cell_of_row _ _ _ _ _ _ hr1];rfl
       have rF:W1.rangeAt bf (at_*256) (cB b):=by
        have:=HMEM.out;intro j v hj;rw[hb1.cell (p:=⟨bf,at_*256+j,none⟩) (by have:=HH1.out;show bf<_;omega)];exact this j v hj
       have tV:W1.there bv (at_*256) (cB b).length:=Zcp hD1.hv (by rw[HL.out,Zaw (Zcc hD1.okV)];omega);have hone2:=Zhj b;have hub:=Tryz.underlying151;have hib:(Tryz.prog.info? 151).map (·.size)=some (cB b).length:=by rw[sizeB,HL.out]
       have hlen:=HL.out;obtain⟨hD2,hwr2⟩:=HD.out.setV (W:=W1.drew) (hb1.drew) at_ (by rw[<- hNV];exact haV) b HB.out;have hf2:=(hf1.trans (Frm.of_below (hdr W1 1))).trans (Frm.of_wrote2 (g1:=bf) hwr2);have HD2:=hid hD2;have HF2:=hid hf2;have hS1:W1.drew.cell? ⟨bp,0,none⟩=some (.slice (some ⟨bf,0,none⟩) NF NF)/\W1.drew.cell? ⟨bp,1,none⟩=some (.slice (some ⟨bv,0,none⟩) NV NV)/\W1.drew.cell? ⟨H1,0,none⟩=some (.int .i64 at_)/\W1.drew.rangeAt bf (at_*256) (cB b)/\W1.drew.there bv (at_*256) (cB b).length:=⟨c0,c1,r0,rF,tV⟩;have hS2:(W1.drew.setCells bv (at_*256) (cB b)).cell? ⟨bp,0,none⟩=some (.slice (some ⟨bf,0,none⟩) NF NF)/\(W1.drew.setCells bv (at_*256) (cB b)).cell? ⟨bp,1,none⟩=some (.slice (some ⟨bv,0,none⟩) NV NV)/\(W1.drew.setCells bv (at_*256) (cB b)).cell? ⟨H1,0,none⟩=some (.int .i64 at_)/\(W1.drew.setCells bv (at_*256) (cB b)).rangeAt bf (at_*256) (cB b)/\(W1.drew.setCells bv (at_*256) (cB b)).there bv (at_*256) (cB b).length:=
        ⟨by rw[World.cell?_setCells_out _ _ _ _ _ (fun e=>absurd e hne.2.1)];exact c0,by rw[World.cell?_setCells_out _ _ _ _ _ (fun e=>absurd e hne.2.1)];exact c1,by rw[World.cell?_setCells_out _ _ _ _ _ (fun e=>by have e:H1=bv:=e;omega)];exact r0,World.rangeAt_setCells_apart hS1.2.2.2.1 _ _ _ (.inl hne.2.2),World.there_setCells hS1.2.2.2.2 _ _ _⟩
       clear hD1 hb1 hf1 hr1 c0 c1 r0 rF tV hD2 hwr2 hf2 hNF hNV hlenFV HU
       go_region_held (fun W=>W.cell? ⟨bp,0,none⟩=some (.slice (some ⟨bf,0,none⟩) NF NF)/\W.cell? ⟨bp,1,none⟩=some (.slice (some ⟨bv,0,none⟩) NV NV)/\W.cell? ⟨H1,0,none⟩=some (.int .i64 at_)/\W.rangeAt bf (at_*256) (cB b)/\W.there bv (at_*256) (cB b).length) (first|exact hS1|exact hS2) (fail)
       clear hS1 hS2;go_wp2_with fail
       go_roundw
       case rel=>exact⟨k+1,by omega,by go_num,(by
        show DskAt _ B bp bf bv _ F1 (stV U F1 V (k+1)) U fu le dn
        rw[stV,HG.out,HGF.out];exact HD2.out),HF2.out⟩
       case measure=>simp[intOf];omega
     . obtain rfl:k=U.length:=by omega
       have hge:¬ (U.length:Int)<(U.length:Int):=by omega
       have c2:=HD.out.c2;have f2:=HD.out.fr 2;go_wp2_with fail
       go_end0
       refine⟨rfl,?_,(HF.out.below HbB.out.2.1 HbB.out.2.2 HBw.out).trans ((Below.refl _ _).setCell HbB.out.1 _),Fr3.set HF.out bp 2 _⟩;rw[<- HF1.out];exact HD.out.noU
def kpOf(k:List Bool)(i:Nat):Bool:=if k.length=0 then false else k.getD (i%k.length) false
theorem dFlush1_any(w:World)(i:Nat):Calls Tryz.prog 167 #[.int .i64 i] w fun e w'=>e=.returned (.bool true)/\∃ m,w'=w.drewN m:=by
 go_enter Tryz.func167,Tryz.ntmps167;go_wp2;go_ret;exact⟨rfl,0,rfl⟩
section
variable {w:World}{B bp bf bv:Nat}{u:Value}{F V:List (List Int)}{U:List (Nat × List Int)}{fu dn:Bool}{le:Int}
theorem DskAt.flags(h:DskAt w B bp bf bv u F V U fu le dn)(i:Nat)(x:Value)(fu':Bool)(le':Int)(dn':Bool)
 (hs:(#[.slice (some ⟨bf,0,none⟩) F.length F.length,.slice (some ⟨bv,0,none⟩) V.length V.length,u,.bool fu,.int .i64 le,.bool dn]:Array Value).setIfInBounds i x=#[.slice (some ⟨bf,0,none⟩) F.length F.length,.slice (some ⟨bv,0,none⟩) V.length V.length,u,.bool fu',.int .i64 le',.bool dn']):
 DskAt (w.setCell ⟨bp,i,none⟩ x) B bp bf bv u F V U fu' le' dn'/\Below B w (w.setCell ⟨bp,i,none⟩ x):=by
 have oth:∀ {k:Nat},k≠bp->(w.setCell ⟨bp,i,none⟩ x).heap[k]? =w.heap[k]? :=fun hk=>heap_setCell_other _ _ _ _ hk
 refine⟨⟨h.bB,h.ne,?_,?_,?_,⟨h.hu.1,?_⟩,h.une,h.okF,h.okV,h.okU,h.len,h.max⟩,(Below.refl _ _).setCell h.bB.1 _⟩
 . have:=heap_setCell_same w bp i _ _ x h.hp
   rw[hs] at this;exact this
 . rw[oth (Ne.symm h.ne.1)];exact h.hf
 . rw[oth (Ne.symm h.ne.2.1)];exact h.hv
 . rcases h.hu.2 with h0| ⟨g,cap,cur,hv,hg,hh,r⟩
   . exact .inl h0
   . exact .inr ⟨g,cap,cur,hv,hg,by rw[oth (fun e=>h.une.1 (by rw[hv,<- e];rfl))];exact hh,r⟩
end
def pOk(fu:Bool)(le:Int)(dn:Bool):Bool:=!dn && (!fu || !decide (le=0))
def pLe(fu:Bool)(le:Int)(dn:Bool):Int:=if dn=false/\fu=true/\le≠0 then le-1 else le
def pDn(fu:Bool)(le:Int)(dn:Bool):Bool:=dn || (fu && decide (le=0))
section
variable {w:World}{B bp bf bv:Nat}{u:Value}{F V:List (List Int)}{U:List (Nat × List Int)}{fu dn:Bool}{le:Int}
theorem Zie(h:DskAt w B bp bf bv u F V U fu le dn)(h0:0<=le)(h1:le<=9223372036854775807):
 Calls Tryz.prog 165 #[.pointer (some ⟨bp,0,none⟩)] w fun e w'=>e=.returned (.bool (pOk fu le dn))/\DskAt w' B bp bf bv u F V U fu (pLe fu le dn) (pDn fu le dn)/\Wrote w w' bp:=by
 have c3:=h.c3;have c4:=h.c4;have c5:=h.c5;have f4:=h.fr 4;have f5:=h.fr 5;cases dn
 . cases fu
   . have H:=hid h
     clear h;go_enter Tryz.func165,Tryz.ntmps165;go_wp2;go_ret;exact⟨rfl,by simpa [pLe,pDn] using H.out,Wrote.refl _ _⟩
   . by_cases hl:le=0
     . have H:=hid ((h.flags 5 (.bool true) true le true rfl).1)
       subst hl;clear h;go_enter Tryz.func165,Tryz.ntmps165;go_wp2;go_ret;exact⟨rfl,by simpa [pLe,pDn] using H.out,Wrote.setCell _ _ _ _⟩
     . have H:=hid ((h.flags 4 (.int .i64 (le-1)) true (le-1) false rfl).1)
       have hlb:(le==0)=false:=by simpa using hl
       have HL:=hid hl;clear h;go_enter Tryz.func165,Tryz.ntmps165;go_wp2;go_ret;have hl:=HL.out;exact⟨by simp[pOk,hl],by simpa [pLe,pDn,hl] using H.out,Wrote.setCell _ _ _ _⟩
 . have H:=hid h
   clear h;go_enter Tryz.func165,Tryz.ntmps165;go_wp2;go_ret;exact⟨rfl,by simpa [pLe,pDn] using H.out,Wrote.refl _ _⟩
theorem BSl.apartP(h:DskAt w B bp bf bv u F V U fu le dn){v:Value}{l:List Int}(hv:BSl w v l){W:World}(hw:Wrote w W bp):BSl W v l:=by
 refine⟨hv.1,?_⟩;rcases hv.2 with h0| ⟨a,cap,hva,hcap,hc⟩
 . exact .inl h0
 . refine .inr ⟨a,cap,hva,hcap,fun j hj=>?_⟩
   obtain⟨h1,h2,h3⟩:=hc j hj;refine⟨by rw[hw.2.2.2.1];exact h1,h2,?_⟩;have hne:a.block≠bp:=fun e=>by
    rw[e,cell_of_row _ _ _ _ _ _ h.hp] at h3;obtain⟨ao,cu,hu⟩:=h.shapeU;rw[hu] at h3;have:a.off+j=0\/a.off+j=1\/a.off+j=2\/a.off+j=3\/a.off+j=4\/a.off+j=5\/6<=a.off+j:=by omega
    rcases this with e|e|e|e|e|e|e
    . rw[e] at h3;simp at h3
    . rw[e] at h3;simp at h3
    . rw[e] at h3;simp at h3
    . rw[e] at h3;simp at h3
    . rw[e] at h3;simp at h3
    . rw[e] at h3;simp at h3
    . rw[Array.getElem?_eq_none (by simpa using e)] at h3;cases h3
   rw[World.cell?_of_block (a:=⟨a.block,a.off+j,none⟩) (w:=w) (hw.2.2.2.2 _ hne)];exact h3
end
structure FrU (w W:World) (bp bf bv:Nat) (u u':Value):Prop where
 os:W.os=w.os
 tape:W.tape=w.tape
 output:W.output=w.output
 size:w.heap.size<=W.heap.size
 block:∀ k,k<w.heap.size->k≠bp->k≠bf->k≠bv->u.ownBlock≠some k->W.heap[k]? =w.heap[k]?
 own:∀ k,u'.ownBlock=some k->u.ownBlock=some k\/w.heap.size<=k
theorem dWrite_off{w:World}{B bp bf bv:Nat}{u:Value}{F V:List (List Int)}{U:List (Nat × List Int)}{fu dn:Bool}{le:Int}(h:DskAt w B bp bf bv u F V U fu le dn)(h0:0<=le)(h1:le<=9223372036854775807)(n:Int){v:Value}{l:List Int}(hv:BSl w v l)(hy:(0<=n/\n<V.length)/\l.length=256)(hp:pOk fu le dn=false):
 Calls Tryz.prog 164 #[.pointer (some ⟨bp,0,none⟩),.int .i64 n,v] w fun e w'=>e=.returned (.int .i64 2)/\DskAt w' B bp bf bv u F V U fu (pLe fu le dn) (pDn fu le dn)/\Wrote w w' bp:=by
 have KP:=hid (Zie h h0 h1);have KF:=hid (dFits_at h n hv);rw[hp] at KP;rw[decide_eq_true hy] at KF;clear h hv hy;go_enter Tryz.func164,Tryz.ntmps164
 go_wp2_with (first
  |(go_at_call 85;refine KF.out.mono ?_;rintro e w' ⟨rfl,rfl⟩)
  |(go_at_call 165;refine KP.out.mono ?_;rintro e w2 ⟨rfl,hd2,hw2⟩))
 go_ret;exact⟨rfl,hd2,hw2⟩
attribute [-go_sem] Instr.build Instr.buildSlice loadCellsFrom
set_option maxRecDepth 100000 in
set_option maxHeartbeats 3000000 in
theorem dWrite_on{w:World}{B bp bf bv:Nat}{u:Value}{F V:List (List Int)}{U:List (Nat × List Int)}{fu dn:Bool}{le:Int}(h:DskAt w B bp bf bv u F V U fu le dn)(h0:0<=le)(h1:le<=9223372036854775807)(hp:pOk fu le dn=true)(n:Nat)(hn:n<V.length){v:Value}{l:List Int}(hv:BSl w v l)(hl:l.length=256)(hU:U.length<=1000000):
 Calls Tryz.prog 164 #[.pointer (some ⟨bp,0,none⟩),.int .i64 n,v] w fun e w'=>e=.returned (.int .i64 0)/\∃ u',DskAt w' B bp bf bv u' F (V.set n l) (U ++ [(n,l)]) fu (pLe fu le dn) (pDn fu le dn)/\Below B w w'/\FrU w w' bp bf bv u u':=by
 have KF:=hid (dFits_at h n hv);have KP:=hid (Zie h h0 h1);rw[hp] at KP;have HOLD:=hid h;have HVOLD:=hid (fun W (hw:Wrote w W bp)=>hv.apartP h hw);generalize pLe fu le dn=le' at KP |-
 generalize pDn fu le dn=dn' at KP |-
 have hBw:B<=w.heap.size:=by
  have h1:=(Array.getElem?_eq_some_iff.1 h.hp).1;have:=h.bB;omega
 have hd:decide ((0<=(n:Int)/\(n:Int)<V.length)/\l.length=256)=true:=decide_eq_true ⟨by omega,hl⟩;have hn':(n:Int)<V.length:=by omega
 have HL:Hid ((cB l).length=256):=by show _=_;rw[Zau,hl]
 have HB:Hid (Blk l):=⟨hl,hv.1⟩;have HZ:=hid Zde;have hone:∀ v∈zB,v.oneCell'=true:=fun v hv=>by rw[List.eq_of_mem_replicate hv];rfl
 have HH:=hid hl;clear hl;go_enter Tryz.func164,Tryz.ntmps164
 go_wp2_with (first
  |(go_at_call 85;refine KF.out.mono ?_;rintro e w' ⟨rfl,rfl⟩;rw[hd])
  |(go_at_call 165;refine KP.out.mono ?_;rintro e w0 ⟨rfl,hd0,hw0⟩
    have HV0:=hid (HVOLD.out _ hw0))
  |(go_at_call 86;refine(dBlockOf_any HV0.out HH.out).mono ?_;rintro e w1 ⟨rfl,hb1⟩)
  |with_reducible refine Zej _ rfl rfl ?_
  |(refine Zdf _ rfl _ _ (by rfl) _ 151 zB (cB l) (by rfl) (by rfl) (heap_alloc_last _ _) HZ.out HL.out (Zhj l) ?_
    rw[World.setRow_alloc_new]))
 have HW0:=hid hw0;have HBW:Hid (Below B w w0):=hid (hw0.below h.bB.1);have hBw:B<=w0.heap.size:=Nat.le_trans hBw HBW.out.size;clear h hv KF KP HOLD HVOLD hw0;have h:=hd0;have hv:=HV0.out;have hb2:Below w0.heap.size w0 (w1.alloc (.cells (cB l).toArray 151)):=hb1.alloc hb1.size _;obtain⟨H1,hH1⟩:∃ H1,H1=w1.heap.size:=⟨_,rfl⟩;have hrow:(w1.alloc (.cells (cB l).toArray 151)).heap[H1]? =some (.cells (cB l).toArray 151 (0,0)):=by rw[hH1];exact heap_alloc_last _ _
 rw[<- hH1];have hlt1:bp<H1/\bf<H1/\bv<H1:=by
  have h1:=(Array.getElem?_eq_some_iff.1 h.hp).1;have h2:=(Array.getElem?_eq_some_iff.1 h.hf).1;have h3:=(Array.getElem?_eq_some_iff.1 h.hv).1;have:=hb1.size;omega
 have HH1:=hid hH1;clear hH1;generalize w1.alloc (.cells (cB l).toArray 151)=W1 at hb2 hrow |-
 have h1:=h.below hb2;have rL:W1.rangeAt H1 0 (cB l):=Zca hrow (by rw[List.drop_zero,List.take_length]);have tV:W1.there bv (n*256) (cB l).length:=Zcp h1.hv (by rw[HL.out,Zaw (Zcc h.okV)];omega);have c1:=h1.c1;have hone2:=Zhj l;have hub:=Tryz.underlying151;have hib:(Tryz.prog.info? 151).map (·.size)=some (cB l).length:=by rw[sizeB,HL.out]
 have hlen:=HL.out;have H:=hid h;have hS1:W1.drew.cell? ⟨bp,1,none⟩=some (.slice (some ⟨bv,0,none⟩) V.length V.length)/\W1.drew.rangeAt H1 0 (cB l)/\W1.drew.there bv (n*256) (cB l).length:=⟨c1,rL,tV⟩;have hS2:(W1.drew.setCells bv (n*256) (cB l)).cell? ⟨bp,1,none⟩=some (.slice (some ⟨bv,0,none⟩) V.length V.length)/\(W1.drew.setCells bv (n*256) (cB l)).rangeAt H1 0 (cB l)/\(W1.drew.setCells bv (n*256) (cB l)).there bv (n*256) (cB l).length:=
  ⟨by rw[World.cell?_setCells_out _ _ _ _ _ (fun e=>absurd e h.ne.2.1)];exact c1,World.rangeAt_setCells_apart hS1.2.1 _ _ _ (.inl (by omega)),World.there_setCells hS1.2.2 _ _ _⟩
 clear h1 hrow h hv
 go_region_held (fun W=>W.cell? ⟨bp,1,none⟩=some (.slice (some ⟨bv,0,none⟩) V.length V.length)/\W.rangeAt H1 0 (cB l)/\W.there bv (n*256) (cB l).length) (first|exact hS1|exact hS2) (fail)
 go_wp2_with fail
 obtain⟨h2,hwr⟩:=H.out.setV (W:=W1.drew) (hb2.drew) n hn l HB.out;have hrow2:(W1.drew.setCells bv (n*256) (cB l)).rangeAt H1 0 (cB l):=hS2.2.1;have hb3:Below B w0 (W1.drew.setCells bv (n*256) (cB l)):=((hb2.mono hBw).drew).trans (hwr.below H.out.bB.2.2);have hsz2:H1<(W1.drew.setCells bv (n*256) (cB l)).heap.size:=World.block_lt_of_cell? _ _ (hrow2 0 _ (List.getElem?_eq_getElem (by omega)));have hfr2:∀ k,k<w0.heap.size->k≠bv->(W1.drew.setCells bv (n*256) (cB l)).heap[k]? =w0.heap[k]? :=fun k hk hne=>(hwr.2.2.2.2 k hne).trans ((hb2.drew).block k hk)
 generalize W1.drew.setCells bv (n*256) (cB l)=W2 at h2 hrow2 hb3 hsz2 hfr2 |-
 clear hS1 hS2 rL tV c1 hwr hb2;have HFR2:=hid hfr2;clear hfr2;have hB2:B<=W2.heap.size:=Nat.le_trans hBw hb3.size;obtain⟨i,hi1,hi2,hi3,hi4⟩:=info_parts infoW;have c2:=h2.c2;have fz:=h2.fr 2;have hbd:=fun W=>build_write W n l HH.out
 have hbs:=fun W=>slice_write W (.int .i64 n :: cB l) (by rw[List.length_cons,HL.out])
 have hown:=h2.hu;have hcu:(Value.int .i64 n :: cB l).length=257:=by rw[List.length_cons,HL.out]
 have hcu1:∀ v∈(Value.int .i64 n :: cB l),v.oneCell'=true:=cU_one (n,l);have hS1:W2.drew.rangeAt H1 0 (cB l):=hrow2;have hbpH:bp≠H1:=by omega
 have huH:u.ownBlock≠some H1:=fun e=>by have:=(H.out.hu.lt _ e).2;have:=hb1.size;have:=HH1.out;omega
 have hB2':=hid hB2;have hzz:(Value.agg (Value.int .i64 0 :: zB).toArray).cells.size=257:=by show(Value.int .i64 0 :: zB).toArray.size=257;simp[Zde]
 have hc3:∀ w3,((W2.alloc (.cells (Value.int .i64 n :: cB l).toArray 155)).drew).grownBy w3 u.ownBlock->w3.cell? ⟨bp,2,none⟩=some u/\w3.frozen? ⟨bp,2,none⟩=false:=fun w3 hg=>by
  have hlt:bp<W2.heap.size:=(Array.getElem?_eq_some_iff.1 h2.hp).1;have hlt':bp<((W2.alloc (.cells (Value.int .i64 n :: cB l).toArray 155)).drew).heap.size:=by simp;omega
  rw[hg.cell_far _ hlt' (Ne.symm h2.une.1),hg.frozen_far _ hlt' (Ne.symm h2.une.1)];exact⟨by rw[World.cell?_drew,World.cell?_alloc_lt _ _ _ hlt];exact c2,by rw[World.frozen?_drew,World.frozen?_alloc_past _ _ _ hlt];exact fz⟩
 have hap:=fun w3 hgrow g cap hown3 hat=>h2.pushU (W:=(W2.alloc (.cells (Value.int .i64 n :: cB l).toArray 155)).drew) (w3:=w3) (((Below.refl _ _).alloc (Nat.le_refl _) _).drew) hB2 hgrow g cap (n,l) ⟨by rw[List.length_set];exact hn,HB.out⟩ hown3 hat
 have hcl:(loadCellsFrom ⟨H1,0,none⟩ 0 256 #[]).run Tryz.prog W2.drew=.ok (cB l).toArray W2.drew:=by
  have:=run_loadCells_list (P:=Tryz.prog) W2.drew ⟨H1,0,none⟩ (cB l) (fun j v hv=>by rw[Addr.add_mid];exact hS1 j v hv);rw[HL.out] at this;exact this
 have hltbp:bp<W2.heap.size:=(Array.getElem?_eq_some_iff.1 h2.hp).1;clear hub hib hlen
 go_region_law
  ((refine step_append_lies _ (by rfl) _ _ _ (by rfl) B 155 i _ 257 264 Tryz.underlying129 hi1 hi2 hi3 hi4 hzz (by omega) u U.length (U.flatMap cU) (by rfl) ((hown.alloc _).drew)
     ⟨W2.heap.size,0,none⟩ 1 1 (Value.int .i64 n :: cB l) (by rfl) hcu (World.news_of_block (cs:=(Value.int .i64 n :: cB l).toArray) (t:=155) (fr:=(0,0)) (heap_alloc_new W2 _)) hcu1
     (by omega) (by simp only[maxLen];omega) (by omega) (Nat.le_trans hB2 (by simp)) (W2.heap.size+1) (by simp) ?_;intro gg cap w3 hown3 hgrow hat hlt;obtain⟨c3,f3⟩:=hc3 w3 hgrow))
 all_goals
  obtain⟨hd3,hb4⟩:=hap w3 hgrow gg cap hown3 (by simpa using hat);clear hap hc3;go_wp2_with fail
  go_ret;have hbA:=(HBW.out.trans hb3).trans hb4;refine⟨rfl,_,hd3,hbA,hbA.os,hbA.tape,hbA.output,hbA.size,fun k hk k1 k2 k3 k4=>?_,fun k hk=>?_⟩
  . have e0:k<w0.heap.size:=Nat.lt_of_lt_of_le hk HBW.out.size
    have e1:k<W2.heap.size:=Nat.lt_of_lt_of_le e0 hb3.size;have e2:k<((W2.alloc (.cells (Value.int .i64 n :: cB l).toArray 155)).drew).heap.size:=by simp;omega
    rw[heap_setCell_other _ _ _ _ k1,hgrow.block k e2 (Ne.symm k4)];exact(((Below.refl W2.heap.size W2).alloc (Nat.le_refl _) _).block k e1).trans ((HFR2.out k e0 k3).trans (HW0.out.2.2.2.2 k k1))
  . obtain rfl:gg=k:=by simpa [Value.ownBlock] using hk
    rcases hat with hat|hat
    . exact .inl hat
    . right
      have:=hb3.size;have:=HBW.out.size;omega
def BBSl(w:World)(v:Value)(L:List (List Int)):Prop:=
 (v=.slice none 0 0/\L=[])\/∃ a cap,v=.slice (some a) L.length cap/\L.length<=cap/\∀ j,j<L.length->a.block<w.heap.size/\a.spot=none/\
   ∃ u,w.cell? ⟨a.block,a.off+j,none⟩=some u/\BSl w u (L.getD j [])
theorem BBSl.keep{w w':World}{v:Value}{L:List (List Int)}(h:BBSl w v L)(hs:w.heap.size<=w'.heap.size)(hb:∀ p:Addr,p.block<w.heap.size->w'.cell? p=w.cell? p):BBSl w' v L:=by
 rcases h with h| ⟨a,cap,hv,hcap,hc⟩
 . exact .inl h
 . refine .inr ⟨a,cap,hv,hcap,fun j hj=>?_⟩
   obtain⟨h1,h2,u,h3,h4⟩:=hc j hj;exact⟨Nat.lt_of_lt_of_le h1 hs,h2,u,by rw[hb _ (by exact h1),h3],h4.keep hs hb⟩
theorem BBSl.below{w w':World}{v:Value}{L:List (List Int)}(h:BBSl w v L)(hb:Below w.heap.size w w'):BBSl w' v L:=
 h.keep hb.size fun _ hp=>hb.cell hp
theorem BBSl.open'{w:World}{v:Value}{L:List (List Int)}(h:BBSl w v L):∃ ao cap,v=.slice ao L.length cap/\L.length<=cap/\(0<L.length->∃ b off,ao=some ⟨b,off,none⟩/\b<w.heap.size/\
 ∀ j,j<L.length->∃ u,w.cell? ⟨b,off+j,none⟩=some u/\BSl w u (L.getD j [])):=by
 rcases h with⟨hv,hk⟩| ⟨⟨b,off,spot⟩,cap,hv,hcap,hc⟩
 . exact⟨none,0,by rw[hv,hk];rfl,by rw[hk];exact Nat.le_refl _,fun h=>by rw[hk] at h;simp at h⟩
 . refine⟨_,cap,hv,hcap,fun h0=>?_⟩
   obtain⟨h1,h2,_⟩:=hc 0 h0;obtain rfl:spot=none:=h2;exact⟨b,off,rfl,h1,fun j hj=>(hc j hj).2.2⟩
theorem BBSl.shape{w:World}{v:Value}{L:List (List Int)}(h:BBSl w v L):∃ ao cap,v=.slice ao L.length cap/\L.length<=cap:=by
 obtain⟨ao,cap,hv,hc,_⟩:=h.open';exact⟨ao,cap,hv,hc⟩
theorem BSl.one{w:World}{v:Value}{l:List Int}(h:BSl w v l):v.oneCell'=true:=by
 obtain⟨ao,cap,rfl,_⟩:=h.shape;rfl
def BElt(w:World)(B:Nat)(x:Value)(l:List Int):Prop:=
 BSl w x l/\(0<l.length->∃ b off cap,x=.slice (some ⟨b,off,none⟩) l.length cap/\b<w.heap.size/\(b<B\/∃ cur,w.heap[b]? =some (.cells cur 5 (0,0))))
theorem BElt.grown{w w':World}{B:Nat}{x:Value}{l:List Int}(h:BElt w B x l){row:Option Nat}(hrow:∀ g,row=some g->B<=g/\∃ cur,w.heap[g]? =some (.cells cur 30 (0,0)))(hg:w.grownBy w' row):BElt w' B x l:=by
 by_cases h0:0<l.length
 . obtain⟨b,off,cap,rfl,hb,hor⟩:=h.2 h0
   have hne:some b≠row:=fun e=>by
    obtain⟨h1,cur,h2⟩:=hrow b e.symm;rcases hor with h3| ⟨cur',h3⟩
    . omega
    . rw[h3] at h2
      injection h2 with h2
      injection h2 with _ h4
      exact absurd h4 (by decide)
   have hbk:=hg.block b hb hne;refine⟨⟨h.1.1,?_⟩,fun _=>⟨b,off,cap,rfl,Nat.lt_of_lt_of_le hb hg.size,hor.elim .inl fun⟨cur,hc⟩=>.inr ⟨cur,by rw[hbk];exact hc⟩⟩⟩;rcases h.1.2 with⟨hv,_⟩| ⟨a,cap',hv,hcap,hc⟩
   . simp at hv
   . obtain⟨rfl,rfl⟩:a=⟨b,off,none⟩/\cap=cap':=⟨(Option.some.inj (Value.slice.inj hv).1).symm,(Value.slice.inj hv).2.2⟩
     refine .inr ⟨_,cap,rfl,hcap,fun j hj=>?_⟩;obtain⟨h1,h2,h3⟩:=hc j hj;exact⟨Nat.lt_of_lt_of_le h1 hg.size,rfl,by rw[World.cell?_of_block (a:=⟨b,off+j,none⟩) hbk];exact h3⟩
 . obtain rfl:l=[]:=List.eq_nil_of_length_eq_zero (by omega)
   refine⟨⟨Zfb,?_⟩,fun h=>absurd h h0⟩;rcases h.1.2 with h| ⟨a,cap,hv,hcap,_⟩
   . exact .inl h
   . exact .inr ⟨a,cap,hv,hcap,fun j hj=>absurd hj (Nat.not_lt_zero _)⟩
theorem grown_of_below{w w':World}(h:Below w.heap.size w w'):w.grownBy w' none:=⟨h.os,h.tape,h.output,h.size,fun k hk _=>h.block k hk⟩
theorem BElt.below{w w':World}{B:Nat}{x:Value}{l:List Int}(h:BElt w B x l)(hb:Below w.heap.size w w'):BElt w' B x l:=
 h.grown (row:=none) (fun g e=>by cases e) (grown_of_below hb)
theorem OB.elt{w:World}{B B':Nat}{x:Value}{l:List Int}(h:OB w B' x l):BElt w B x l:=by
 refine⟨h.bsl,fun h0=>?_⟩;rcases h.2.2 with⟨_,hl⟩| ⟨g,cap,cur,hv,_,hh,_⟩
 . omega
 . exact⟨g,0,cap,hv,(Array.getElem?_eq_some_iff.1 hh).1,.inr ⟨cur,hh⟩⟩
def BBE(w:World)(B:Nat)(v:Value)(L:List (List Int)):Prop:=
 (v=.slice none 0 0/\L=[])\/∃ a cap,v=.slice (some a) L.length cap/\L.length<=cap/\∀ j,j<L.length->a.block<w.heap.size/\a.spot=none/\
   ∃ u,w.cell? ⟨a.block,a.off+j,none⟩=some u/\BElt w B u (L.getD j [])
theorem BBE.below{w w':World}{B:Nat}{v:Value}{L:List (List Int)}(h:BBE w B v L)(hb:Below w.heap.size w w'):BBE w' B v L:=by
 rcases h with h| ⟨a,cap,hv,hcap,hc⟩
 . exact .inl h
 . refine .inr ⟨a,cap,hv,hcap,fun j hj=>?_⟩
   obtain⟨h1,h2,u,h3,h4⟩:=hc j hj;exact⟨Nat.lt_of_lt_of_le h1 hb.size,h2,u,by rw[hb.cell (p:=⟨a.block,a.off+j,none⟩) h1,h3],h4.below hb⟩
theorem BBE.sl{w:World}{B:Nat}{v:Value}{L:List (List Int)}(h:BBE w B v L):BBSl w v L:=by
 rcases h with h| ⟨a,cap,hv,hcap,hc⟩
 . exact .inl h
 . refine .inr ⟨a,cap,hv,hcap,fun j hj=>?_⟩
   obtain⟨h1,h2,u,h3,h4⟩:=hc j hj;exact⟨h1,h2,u,h3,h4.1⟩
def BBR(w:World)(B:Nat)(v:Value)(L:List (List Int)):Prop:=
 ∃ vs:List Value,vs.length=L.length/\(∀ j,j<L.length->BElt w B (vs.getD j undef) (L.getD j []))/\w.ownsRow B 30 1 v L.length vs
theorem BBR.be{w:World}{B:Nat}{v:Value}{L:List (List Int)}(h:BBR w B v L):BBE w B v L:=by
 obtain⟨vs,hl,hr,ho⟩:=h;rcases ho.2 with⟨hv,hl0⟩| ⟨g,cap,cur,hv,hg,hh,hnc,hcm,hcs,ht⟩
 . exact .inl ⟨hv,List.eq_nil_of_length_eq_zero hl0⟩
 . refine .inr ⟨_,cap,hv,hnc,fun j hj=>⟨(Array.getElem?_eq_some_iff.1 hh).1,rfl,vs.getD j undef,?_,hr j hj⟩⟩
   show w.cell? ⟨g,0+j,none⟩=_
   rw[Nat.zero_add,cell_of_row _ _ _ _ _ _ hh];have:(cur.toList.take (L.length*1))[j]? =vs[j]? :=by rw[ht]
   rw[List.getElem?_take,if_pos (by omega)] at this
   simpa [List.getD_eq_getElem?_getD,show j<vs.length by omega] using this
theorem BBR.sl{w:World}{B:Nat}{v:Value}{L:List (List Int)}(h:BBR w B v L):BBSl w v L:=h.be.sl
theorem BBR.below{w w':World}{B:Nat}{v:Value}{L:List (List Int)}(h:BBR w B v L)(hb:Below w.heap.size w w'):BBR w' B v L:=by
 obtain⟨vs,hl,hr,ho⟩:=h;refine⟨vs,hl,fun j hj=>(hr j hj).below hb,ho.1,?_⟩;rcases ho.2 with h| ⟨g,cap,cur,hv,hg,hh,r⟩
 . exact .inl h
 . exact .inr ⟨g,cap,cur,hv,hg,by rw[hb.block g (Array.getElem?_eq_some_iff.1 hh).1];exact hh,r⟩
theorem infoBy:(Tryz.prog.info? 30).map (fun i=>(i.zero,i.size,i.bytes))=some (some (.slice none 0 0),1,24):=by kernel_rfl
theorem bbr_one{w1:World}{B:Nat}{x:Value}{l:List Int}(hx:BElt w1 B x l)(hB:B<=w1.heap.size):
 BBR (w1.alloc (.cells #[x] 30)) B (.slice (some ⟨w1.heap.size,0,none⟩) 1 1) [l]:=by
 refine⟨[x],rfl,fun j hj=>?_,rfl,.inr ⟨w1.heap.size,1,#[x],rfl,hB,heap_alloc_new w1 _,Nat.le_refl _,by decide,rfl,rfl⟩⟩;obtain rfl:j=0:=by simpa using hj
 exact hx.below (Zaa _ _)
def BB2(w:World)(B E:Nat)(v:Value)(L:List (List Int)):Prop:=
 ∃ vs:List Value,vs.length=L.length/\(∀ j,j<L.length->BElt w E (vs.getD j undef) (L.getD j []))/\w.ownsRow B 30 1 v L.length vs
theorem BB2.lower{w:World}{B B' E:Nat}{v:Value}{L:List (List Int)}(h:BB2 w B E v L)(hB:B'<=B):BB2 w B' E v L:=by
 obtain⟨vs,hl,hr,ho⟩:=h;exact⟨vs,hl,hr,ho.1,ho.2.imp id fun⟨g,cap,cur,hv,hg,r⟩=>⟨g,cap,cur,hv,Nat.le_trans hB hg,r⟩⟩
theorem BB2.bbr{w:World}{B:Nat}{v:Value}{L:List (List Int)}(h:BB2 w B B v L):BBR w B v L:=h
theorem BBR.bb2{w:World}{B:Nat}{v:Value}{L:List (List Int)}(h:BBR w B v L):BB2 w B B v L:=h
theorem BB2.zero{w:World}{B:Nat}{v:Value}{L:List (List Int)}(h:BB2 w B 0 v L):BBR w 0 v L:=h.lower (Nat.zero_le _)
theorem BB2.below{w w':World}{B E:Nat}{v:Value}{L:List (List Int)}(h:BB2 w B E v L)(hb:Below w.heap.size w w'):BB2 w' B E v L:=by
 obtain⟨vs,hl,hr,ho⟩:=h;refine⟨vs,hl,fun j hj=>(hr j hj).below hb,ho.1,?_⟩;rcases ho.2 with h| ⟨g,cap,cur,hv,hg,hh,r⟩
 . exact .inl h
 . exact .inr ⟨g,cap,cur,hv,hg,by rw[hb.block g (Array.getElem?_eq_some_iff.1 hh).1];exact hh,r⟩
theorem bb2_one{w1:World}{B E:Nat}{x:Value}{l:List Int}(hx:BElt w1 E x l)(hB:B<=w1.heap.size):
 BB2 (w1.alloc (.cells #[x] 30)) B E (.slice (some ⟨w1.heap.size,0,none⟩) 1 1) [l]:=by
 refine⟨[x],rfl,fun j hj=>?_,rfl,.inr ⟨w1.heap.size,1,#[x],rfl,hB,heap_alloc_new w1 _,Nat.le_refl _,by decide,rfl,rfl⟩⟩;obtain rfl:j=0:=by simpa using hj
 exact hx.below (Zaa _ _)
theorem Zfp(S:TypeId)(hS:Tryz.prog.underlying S=some (.slice 30))(w:World)(B E:Nat)(hEB:E<=B)(ty:TypeId)(v:Value)(L:List (List Int))(hown:BB2 w B E v L)(u:Value)(M:List (List Int))(hr:BBE w E u M)
 (hlen:L.length+M.length<=1000000) (hB:B<=w.heap.size):
 ∃ v' w',(Builtin.append_ #[S,S] ty #[v,u]).run Tryz.prog w=.ok v' w'/\BB2 w' B E v' (L ++ M)/\Below B w w'/\w.grownBy w' v.ownBlock:=by
 obtain⟨t,h2,h3,h4,h5⟩:=info_parts infoBy;obtain⟨vs,hvl,hve,ho⟩:=hown;rcases hr with⟨rfl,rfl⟩| ⟨⟨b,off,spot⟩,cap,rfl,hcap,hc⟩
 . have hrun:=run_append_owned_none (P:=Tryz.prog) (w:=w) B S ty 30 t 1 hS h2 v L.length vs ho
   exact⟨v,w,hrun,by rw[List.append_nil];exact⟨vs,hvl,hve,ho⟩,Below.refl _ _,World.grownBy.refl w _⟩
 . have hex:∀ j,j<M.length->∃ x,w.cell? ⟨b,off+j,none⟩=some x/\BElt w E x (M.getD j []):=fun j hj=>(hc j hj).2.2
   obtain⟨f,hf⟩:∃ f:Nat->Value,∀ j,j<M.length->w.cell? ⟨b,off+j,none⟩=some (f j)/\BElt w E (f j) (M.getD j []):=by
    refine⟨fun j=>if hj:j<M.length then (hex j hj).choose else undef,fun j hj=>?_⟩;simp only[hj,dif_pos];exact(hex j hj).choose_spec
   have hsp:0<M.length->spot=none:=fun h0=>(hc 0 h0).2.1
   have hcells:∀ j x,((List.range M.length).map f)[j]? =some x->w.cell? (Addr.add ⟨b,off,spot⟩ j)=some x:=fun j x hj=>by
    have hjl:j<M.length:=by simpa using (List.getElem?_eq_some_iff.1 hj).1
    obtain rfl:=hsp (by omega);rw[Addr.add_lit,(hf j hjl).1,<- hj];simp[hjl]
   obtain⟨v',w',hrun,h6,h7,_⟩:=run_append_own (P:=Tryz.prog) w B S ty 30 t _ 1 24 hS h2 h3 h4 h5 rfl (by decide) v L.length vs ho ⟨b,off,spot⟩ M.length cap ((List.range M.length).map f) (by simp) hcells (fun x hx=>by
    obtain⟨j,hj,rfl⟩:=List.mem_map.1 hx;exact(hf j (List.mem_range.1 hj)).2.1.one) (by simp only[maxLen];omega) (by omega) hB
   have hrow:∀ g,v.ownBlock=some g->E<=g/\∃ cur,w.heap[g]? =some (.cells cur 30 (0,0)):=fun g hg=>by
    rcases ho.2 with⟨rfl,_⟩| ⟨g',cap',cur,rfl,hg',hh,_⟩
    . simp[Value.ownBlock] at hg
    . obtain rfl:g'=g:=by simpa [Value.ownBlock] using hg
      exact⟨Nat.le_trans hEB hg',cur,hh⟩
   refine⟨v',w',hrun,⟨vs ++ (List.range M.length).map f,by simp[hvl],fun j hj=>?_,by rw[List.length_append];exact h6⟩,(Below.refl _ _).grown h7 hB fun k hk=>(World.ownsRow.lt ho k hk).1,h7⟩;rw[List.length_append] at hj;by_cases e:j<L.length
   . have:=(hve j e).grown hrow h7
     rw[List.getD_eq_getElem?_getD,List.getD_eq_getElem?_getD,List.getElem?_append_left (by omega),List.getElem?_append_left e,<- List.getD_eq_getElem?_getD,<- List.getD_eq_getElem?_getD];exact this
   . have hjm:j-L.length<M.length:=by omega
     have:=(hf (j-L.length) hjm).2.grown hrow h7;rw[List.getD_eq_getElem?_getD,List.getD_eq_getElem?_getD,List.getElem?_append_right (by omega),List.getElem?_append_right (by omega),hvl];rw[List.getD_eq_getElem?_getD] at this
     simpa [hjm] using this
theorem Zkw(S:TypeId)(hS:Tryz.prog.underlying S=some (.slice 30))(w:World){ops:Array Oper}{rest:List Oper}{o:Oper}{a:Act}{Q:Exit->Act->World->Prop}(hgd:o.guard=none)(s y:Operand)
 (ho:o.op=.call { callee:=.builtin .append,args:=#[s,y],argTypes:=#[S,S] })
 (B E:Nat) (hEB:E<=B) (v:Value) (L:List (List Int)) (hs:a.eval s=v) (hown:BB2 w B E v L) (u:Value) (M:List (List Int)) (hy:a.eval y=u) (hr:BBE w E u M)
 (hlen:L.length+M.length<=1000000) (hB:B<=w.heap.size)
 (h:∀ v' w',BB2 w' B E v' (L ++ M)->Below B w w'->wpList Tryz.prog ops Q rest (a.put o.dst v') w'):wpList Tryz.prog ops Q (o :: rest) a w:=by
 obtain⟨v',w',hr,h2,h3,_⟩:=Zfp S hS w B E hEB o.type v L hown u M hr hlen hB;refine wpList_plain hgd fun K hK=>?_
 unfold Oper.wp execOp;simp only[ho,resolve,invoke,builtin,Sem.run_bind,Sem.run_pure,Result.andThen_ok,List.map_toArray,List.map_cons,List.map_nil,hs,hy,hr];exact hK _ _ (h v' w' h2 h3)
theorem Zeh(S:TypeId)(hS:Tryz.prog.underlying S=some (.slice 30))(w1:World)(x:Value)(l:List Int){ops:Array Oper}{rest:List Oper}{o:Oper}{a:Act}{Q:Exit->Act->World->Prop}(hgd:o.guard=none)(s y:Operand)
 (ho:o.op=.call { callee:=.builtin .append,args:=#[s,y],argTypes:=#[S,S] })
 (B E:Nat) (hEB:E<=B) (v:Value) (L:List (List Int)) (hs:a.eval s=v) (hown:BB2 w1 B E v L) (hx:BElt w1 E x l) (q:Nat) (hy:a.eval y=.slice (some ⟨q,0,none⟩) 1 1) (hq:q=w1.heap.size) (hlen:L.length<=100000) (hB:B<=w1.heap.size)
 (h:∀ v' w',BB2 w' B E v' (L ++ [l])->Below B w1 w'->wpList Tryz.prog ops Q rest (a.put o.dst v') w'):wpList Tryz.prog ops Q (o :: rest) a (w1.alloc (.cells #[x] 30)):=by
 subst hq;have hbel:Below w1.heap.size w1 (w1.alloc (.cells #[x] 30)):=Zaa _ _;have h1:BBE (w1.alloc (.cells #[x] 30)) E (.slice (some ⟨w1.heap.size,0,none⟩) 1 1) [l]:=(bbr_one hx (B:=E) (Nat.le_trans hEB hB)).be;refine Zkw S hS _ hgd s y ho B E hEB v L hs (hown.below hbel) _ [l] hy h1 (by simp;omega) (by simp;omega) fun v' w' h1 h2=>?_
 exact h v' w' h1 ((hbel.mono hB).trans h2)
def ISl(w:World)(v:Value)(l:List Int):Prop:=
 (v=.slice none 0 0/\l=[])\/∃ a cap,v=.slice (some a) l.length cap/\∀ j,j<l.length->a.block<w.heap.size/\a.spot=none/\w.cell? ⟨a.block,a.off+j,none⟩=some (.int .i64 (l.getD j 0))
theorem ISl.below{w w':World}{v:Value}{l:List Int}(h:ISl w v l)(hb:Below w.heap.size w w'):ISl w' v l:=by
 rcases h with h| ⟨a,cap,hv,hc⟩
 . exact .inl h
 . refine .inr ⟨a,cap,hv,fun j hj=>?_⟩
   obtain⟨h1,h2,h3⟩:=hc j hj;exact⟨Nat.lt_of_lt_of_le h1 hb.size,h2,by rw[hb.cell (p:=⟨a.block,a.off+j,none⟩) h1,h3]⟩
theorem ISl.open'{w:World}{v:Value}{l:List Int}(h:ISl w v l):∃ ao cap,v=.slice ao l.length cap/\(0<l.length->∃ b off,ao=some ⟨b,off,none⟩/\b<w.heap.size/\
 ∀ j,j<l.length->w.cell? ⟨b,off+j,none⟩=some (.int .i64 (l.getD j 0))):=by
 rcases h with⟨hv,hk⟩| ⟨⟨b,off,spot⟩,cap,hv,hc⟩
 . exact⟨none,0,by rw[hv,hk];rfl,fun h=>by rw[hk] at h;simp at h⟩
 . refine⟨_,cap,hv,fun h0=>?_⟩
   obtain⟨h1,h2,_⟩:=hc 0 h0;obtain rfl:spot=none:=h2;exact⟨b,off,rfl,h1,fun j hj=>(hc j hj).2.2⟩
theorem ISl.at{w:World}{v:Value}{l:List Int}(h:ISl w v l)(h0:0<l.length):∃ b off cap,v=.slice (some ⟨b,off,none⟩) l.length cap/\b<w.heap.size/\
 ∀ j,j<l.length->w.cell? ⟨b,off+j,none⟩=some (.int .i64 (l.getD j 0)):=by
 obtain⟨ao,cap,hv,hc⟩:=h.open';obtain⟨b,off,rfl,h1,h2⟩:=hc h0;exact⟨b,off,cap,hv,h1,h2⟩
theorem ISl.shape{w:World}{v:Value}{l:List Int}(h:ISl w v l):∃ ao cap,v=.slice ao l.length cap:=by
 obtain⟨ao,cap,hv,_⟩:=h.open';exact⟨ao,cap,hv⟩
def iC(l:List Int):List Value:=l.map (Value.int .i64)
theorem Zao(l:List Int):(iC l).length=l.length:=List.length_map _
theorem iC_one(l:List Int):∀ v∈iC l,v.oneCell'=true:=fun v hv=>by
 obtain⟨x,_,rfl⟩:=List.mem_map.1 hv;rfl
def iO(l:List Int)(T:TypeId):Obj:=.cells (iC l).toArray T (0,0)
theorem Zev{W:World}{g:Nat}{l:List Int}{T:TypeId}(h:W.heap[g]? =some (iO l T))(k:Nat)(hk:k<l.length):W.cell? ⟨g,k,none⟩=some (.int .i64 (l.getD k 0)):=by
 rw[cell_of_row _ _ _ _ _ _ h];simp[iC,List.getD_eq_getElem?_getD,hk]
theorem io_free{W:World}{g:Nat}{l:List Int}{T:TypeId}(h:W.heap[g]? =some (iO l T))(k:Nat):W.frozen? ⟨g,k,none⟩=false:=by
 simp[World.frozen?,h,iO]
theorem io_set{W:World}{g:Nat}{l:List Int}{T:TypeId}(h:W.heap[g]? =some (iO l T))(j:Nat)(y:Int):(W.setCell ⟨g,j,none⟩ (.int .i64 y)).heap[g]? =some (iO (l.set j y) T):=by
 rw[heap_setCell_same W g j _ _ _ h];simp[iO,iC]
theorem Zel{W:World}{g:Nat}{l:List Int}{T:TypeId}(h:W.heap[g]? =some (iO l T)):W.rangeAt g 0 (iC l):=
 Zca h (by rw[List.drop_zero,List.take_length])
def IR(w:World)(B:Nat)(v:Value)(l:List Int):Prop:=w.ownsRow B 3 1 v l.length (iC l)
theorem IR.sl{w:World}{B:Nat}{v:Value}{l:List Int}(h:IR w B v l):ISl w v l:=by
 rcases h.2 with⟨hv,hl⟩| ⟨g,cap,cur,hv,hg,hh,hnc,hcm,hcs,ht⟩
 . exact .inl ⟨hv,List.eq_nil_of_length_eq_zero hl⟩
 . refine .inr ⟨_,cap,hv,fun j hj=>⟨(Array.getElem?_eq_some_iff.1 hh).1,rfl,?_⟩⟩
   show w.cell? ⟨g,0+j,none⟩=_
   rw[Nat.zero_add,cell_of_row _ _ _ _ _ _ hh];have:(cur.toList.take (l.length*1))[j]? =(iC l)[j]? :=by rw[ht]
   rw[List.getElem?_take,if_pos (by omega)] at this
   simpa [iC,List.getD_eq_getElem?_getD,hj] using this
theorem IR.below{w w':World}{B:Nat}{v:Value}{l:List Int}(h:IR w B v l)(hb:Below w.heap.size w w'):IR w' B v l:=by
 refine⟨h.1,?_⟩;rcases h.2 with h| ⟨g,cap,cur,hv,hg,hh,r⟩
 . exact .inl h
 . exact .inr ⟨g,cap,cur,hv,hg,by rw[hb.block g (Array.getElem?_eq_some_iff.1 hh).1];exact hh,r⟩
theorem IR.of_row{w:World}{B g:Nat}{l:List Int}(hB:B<=g)(hg:w.heap[g]? =some (iO l 3))(hm:l.length<=maxLen):
 IR w B (.slice (some ⟨g,0,none⟩) l.length l.length) l:=by
 refine⟨by simp[iC],.inr ⟨g,l.length,_,rfl,hB,hg,Nat.le_refl _,hm,by simp[iC],?_⟩⟩;rw[List.take_of_length_le (by simp[iC])]
theorem infoI64:(Tryz.prog.info? 3).map (fun i=>(i.zero,i.size,i.bytes))=some (some (.int .i64 0),1,8):=by kernel_rfl
theorem made_int(n:Nat):madeCells (Value.int .i64 0).cells n=(iC (List.replicate n 0)).toArray:=by
 apply Array.ext';rw[show(Value.int .i64 0).cells=#[Value.int .i64 0] from rfl,toList_madeCells_one];simp[iC]
theorem Zho(w:World){ops:Array Oper}{rest:List Oper}{o:Oper}{a:Act}{Q:Exit->Act->World->Prop}
 (hg:o.guard=none) (l c:Operand) (hop:o.op=Op.makeSlice 176 l c) (C:Int) (n:Nat) (hl:a.eval l=.int .i64 C) (hc:a.eval c=.int .i64 C) (hC:C=n) (hn:n<=1000000)
 (hK:wpList Tryz.prog ops Q rest (a.put o.dst (.slice (some ⟨w.heap.size,0,none⟩) n n)) (w.alloc (iO (List.replicate n 0) 3))):
 wpList Tryz.prog ops Q (o :: rest) a w:=by
 refine wpList_plain hg fun K hK'=>?_
 obtain⟨i,h2,h3,h4,h5⟩:=info_parts infoI64;subst hC;have hrun:=run_make (P:=Tryz.prog) w 176 3 i (.int .i64 0) Tryz.underlying176 h2 h3 .i64 .i64 n n (by omega) (by omega) (by rw[h5];omega) (by omega);unfold Oper.wp;simp only[Int.toNat_natCast,h4,Nat.mul_one,made_int] at hrun;simp[execOp,hop,hl,hc,hrun,Result.andThen];exact hK' _ _ hK
section
variable {α:Type}{f:α->List Value}{s:Nat}
theorem flat_range{w:World}{g k:Nat}{t:TypeId}{L:List α}(hg:w.heap[g]? =some (.cells (L.flatMap f).toArray t (0,0)))(hf:∀ x∈L,(f x).length=s)(hk:k<L.length):w.rangeAt g (k*s) (f L[k]):=by
 refine Zca hg ?_;rw[hf _ (List.getElem_mem hk)];exact Zfj hf k hk
theorem Zcg{ops:Array Oper}{rest:List Oper}{op:Oper}{a:Act}{w:World}{Q:Exit->Act->World->Prop}(hgd:op.guard=none)(T:TypeId)(x y:Operand)(ho:op.op=.store T x y)
 (hs:(Tryz.prog.info? T).map (·.size)=some s) (g k:Nat) (L:List α) (z:α) (t:TypeId) (hx:a.eval x=.pointer (some ⟨g,k*s,none⟩)) (hy:a.eval y=.agg (f z).toArray)
 (hg:w.heap[g]? =some (.cells (L.flatMap f).toArray t (0,0))) (hk:k<L.length) (hf:∀ x∈L,(f x).length=s) (hz:(f z).length=s) (h1:∀ v∈f z,v.oneCell'=true)
 (h:∀ w',Wrote w w' g->w'.heap[g]? =some (.cells ((L.set k z).flatMap f).toArray t (0,0))->wpList Tryz.prog ops Q rest (a.put op.dst undef) w'):wpList Tryz.prog ops Q (op :: rest) a w:=by
 have hle:k*s+s<=L.length*s:=by
  have:=Nat.mul_le_mul_right s (show k+1<=L.length from hk);rw[Nat.succ_mul] at this;omega
 have hl:k*s+(f z).length<=(L.flatMap f).length:=by rw[Zaw hf,hz];exact hle
 refine wpList_store_mid hgd T x y ho g (k*s) (f z).toArray hx hy (Zcp hg (by simpa using hl)) (by rw[hs];simp[hz]) (all_oneCell_toArray h1) ?_;have e:=Zbx hg hl h1;rw[show(f z).toArray.toList=f z from rfl,e];refine h _ (Wrote.setRow _ _ _) ?_;rw[setRow_heap _ _ _ _ _ _ hg,Zio hf k hk z hz]
end
theorem Zae{ops:Array Oper}{rest:List Oper}{op:Oper}{a:Act}{w:World}{Q:Exit->Act->World->Prop}(hgd:op.guard=none)(T:TypeId)(x:Operand)(ho:op.op=.load T x)
 (b o:Nat) (hx:a.eval x=.pointer (some ⟨b,o,none⟩)) (l:List Int) (d:TypeDesc) (hc:w.rangeAt b o (iC l))
 (hu:Tryz.prog.underlying T=some d) (hd:d.isRow=true) (hi:(Tryz.prog.info? T).map (·.size)=some l.length)
 (h:wpList Tryz.prog ops Q rest (a.put op.dst (.agg (iC l).toArray)) w):wpList Tryz.prog ops Q (op :: rest) a w:=
 wpList_load_mid hgd T x ho b o hx (iC l) d hc hu hd (by rw[hi,Zao]) h
theorem range_low{w w':World}{b o:Nat}{cs:List Value}(h:w.rangeAt b o cs)(hb:Below w.heap.size w w')(hl:b<w.heap.size):w'.rangeAt b o cs:=fun j v hv=>by
 rw[hb.cell (p:=⟨b,o+j,none⟩) hl];exact h j v hv
def KeptG(w w':World)(g:Nat):Prop:=w'.os=w.os/\w'.tape=w.tape/\w'.output=w.output/\w.heap.size<=w'.heap.size/\∀ k,k<w.heap.size->k≠g->w'.heap[k]? =w.heap[k]?
theorem KeptG.refl(w:World)(g:Nat):KeptG w w g:=⟨rfl,rfl,rfl,Nat.le_refl _,fun _ _ _=>rfl⟩
theorem KeptG.then{w w' w'':World}{g:Nat}(h:KeptG w w' g)(hb:Below w'.heap.size w' w''):KeptG w w'' g:=
 ⟨hb.os.trans h.1,hb.tape.trans h.2.1,hb.output.trans h.2.2.1,Nat.le_trans h.2.2.2.1 hb.size,fun k hk hne=>by rw[hb.block k (Nat.lt_of_lt_of_le hk h.2.2.2.1)];exact h.2.2.2.2 k hk hne⟩
theorem KeptG.wrote{w w' w'':World}{g:Nat}(h:KeptG w w' g)(hb:Wrote w' w'' g):KeptG w w'' g:=
 ⟨hb.1.trans h.1,hb.2.1.trans h.2.1,hb.2.2.1.trans h.2.2.1,by rw[hb.2.2.2.1];exact h.2.2.2.1,fun k hk hne=>by rw[hb.2.2.2.2 k hne];exact h.2.2.2.2 k hk hne⟩
theorem KeptG.below{w w':World}{g B:Nat}(h:KeptG w w' g)(hB:B<=g)(hw:B<=w.heap.size):Below B w w':=
 ⟨h.1,h.2.1,h.2.2.1,h.2.2.2.1,fun k hk=>h.2.2.2.2 k (Nat.lt_of_lt_of_le hk hw) (by omega)⟩
structure Chg (P P':Nat->Prop) (w w':World):Prop where
 os:w'.os=w.os
 tape:w'.tape=w.tape
 output:w'.output=w.output
 size:w.heap.size<=w'.heap.size
 keep:∀ k,k<w.heap.size->¬ P k->w'.heap[k]? =w.heap[k]? /\¬ P' k
theorem Chg.refl(P:Nat->Prop)(w:World):Chg P P w w:=⟨rfl,rfl,rfl,Nat.le_refl _,fun _ _ h=>⟨rfl,h⟩⟩
theorem Chg.trans{P P' P'':Nat->Prop}{a b c:World}(h:Chg P P' a b)(k:Chg P' P'' b c):Chg P P'' a c:=
 ⟨k.os.trans h.os,k.tape.trans h.tape,k.output.trans h.output,Nat.le_trans h.size k.size,fun i hi hn=>by
   obtain⟨h1,h2⟩:=h.keep i hi hn;obtain⟨h3,h4⟩:=k.keep i (Nat.lt_of_lt_of_le hi h.size) h2;exact⟨h3.trans h1,h4⟩⟩
theorem Chg.of_below{P:Nat->Prop}{w w':World}(h:Below w.heap.size w w'):Chg P P w w':=⟨h.os,h.tape,h.output,h.size,fun k hk hn=>⟨h.block k hk,hn⟩⟩
theorem Chg.below{P P':Nat->Prop}{w w':World}(h:Chg P P' w w'){B:Nat}(hB:∀ k,k<B->k<w.heap.size/\¬ P k):Below B w w':=
 ⟨h.os,h.tape,h.output,h.size,fun k hk=>(h.keep k (hB k hk).1 (hB k hk).2).1⟩
def Apt(P:Nat->Prop)(v:Value):Prop:=∀ ad n cap,v=.slice (some ad) n cap->0<n->¬ P ad.block
theorem Apt.nil(P:Nat->Prop):Apt P (.slice none 0 0):=fun ad n cap h=>by cases h
theorem Apt.new{P:Nat->Prop}{g off n cap:Nat}(h:¬ P g):Apt P (.slice (some ⟨g,off,none⟩) n cap):=fun ad n' cap' e _=>by
 obtain rfl:=Option.some.inj (Value.slice.inj e).1;exact h
theorem BSl.chg{P P':Nat->Prop}{w w':World}{v:Value}{l:List Int}(h:BSl w v l)(ha:Apt P v)(hc:Chg P P' w w'):BSl w' v l/\Apt P' v:=by
 rcases h.2 with⟨hv,hl⟩| ⟨a,cap,hv,hcap,hcells⟩
 . exact⟨⟨h.1,.inl ⟨hv,hl⟩⟩,by rw[hv];exact Apt.nil _⟩
 . refine⟨⟨h.1,.inr ⟨a,cap,hv,hcap,fun j hj=>?_⟩⟩,fun ad n cap' e hn=>?_⟩
   . obtain⟨h1,h2,h3⟩:=hcells j hj
     have hk:=hc.keep a.block h1 (ha _ _ _ hv (by omega));exact⟨Nat.lt_of_lt_of_le h1 hc.size,h2,by rw[World.cell?_of_block (a:=⟨a.block,a.off+j,none⟩) (w:=w) hk.1];exact h3⟩
   . obtain⟨rfl,rfl⟩:ad=a/\n=l.length:=by
      rw[hv] at e;exact⟨(Option.some.inj (Value.slice.inj e).1).symm,(Value.slice.inj e).2.1.symm⟩
     exact(hc.keep ad.block (hcells 0 hn).1 (ha _ _ _ hv hn)).2
theorem ISl.chg{P P':Nat->Prop}{w w':World}{v:Value}{l:List Int}(h:ISl w v l)(ha:Apt P v)(hc:Chg P P' w w'):ISl w' v l/\Apt P' v:=by
 rcases h with⟨hv,hl⟩| ⟨a,cap,hv,hcells⟩
 . exact⟨.inl ⟨hv,hl⟩,by rw[hv];exact Apt.nil _⟩
 . refine⟨.inr ⟨a,cap,hv,fun j hj=>?_⟩,fun ad n cap' e hn=>?_⟩
   . obtain⟨h1,h2,h3⟩:=hcells j hj
     have hk:=hc.keep a.block h1 (ha _ _ _ hv (by omega));exact⟨Nat.lt_of_lt_of_le h1 hc.size,h2,by rw[World.cell?_of_block (a:=⟨a.block,a.off+j,none⟩) (w:=w) hk.1];exact h3⟩
   . obtain⟨rfl,rfl⟩:ad=a/\n=l.length:=by
      rw[hv] at e;exact⟨(Option.some.inj (Value.slice.inj e).1).symm,(Value.slice.inj e).2.1.symm⟩
     exact(hc.keep ad.block (hcells 0 hn).1 (ha _ _ _ hv hn)).2
def BBa(w:World)(P:Nat->Prop)(v:Value)(L:List (List Int)):Prop:=
 (v=.slice none 0 0/\L=[])\/∃ a cap,v=.slice (some a) L.length cap/\L.length<=cap/\∀ j,j<L.length->(a.block<w.heap.size/\¬ P a.block)/\a.spot=none/\
   ∃ u,w.cell? ⟨a.block,a.off+j,none⟩=some u/\BSl w u (L.getD j [])/\Apt P u
theorem BBa.sl{w:World}{P:Nat->Prop}{v:Value}{L:List (List Int)}(h:BBa w P v L):BBSl w v L:=by
 rcases h with h| ⟨a,cap,hv,hcap,hc⟩
 . exact .inl h
 . refine .inr ⟨a,cap,hv,hcap,fun j hj=>?_⟩
   obtain⟨h1,h2,u,h3,h4,_⟩:=hc j hj;exact⟨h1.1,h2,u,h3,h4⟩
theorem BBa.chg{P P':Nat->Prop}{w w':World}{v:Value}{L:List (List Int)}(h:BBa w P v L)(hc:Chg P P' w w'):BBa w' P' v L:=by
 rcases h with h| ⟨a,cap,hv,hcap,hcells⟩
 . exact .inl h
 . refine .inr ⟨a,cap,hv,hcap,fun j hj=>?_⟩
   obtain⟨⟨h1,h1'⟩,h2,u,h3,h4,h5⟩:=hcells j hj;obtain⟨k1,k2⟩:=hc.keep a.block h1 h1';obtain⟨m1,m2⟩:=h4.chg h5 hc;exact⟨⟨Nat.lt_of_lt_of_le h1 hc.size,k2⟩,h2,u,by rw[World.cell?_of_block (a:=⟨a.block,a.off+j,none⟩) (w:=w) k1];exact h3,m1,m2⟩
theorem BBa.nil(w:World)(P:Nat->Prop):BBa w P (.slice none 0 0) []:=.inl ⟨rfl,rfl⟩
theorem Apt.of_lt{w:World}{v:Value}{l:List Int}(h:BSl w v l){Q:Nat->Prop}(hQ:∀ k,Q k->w.heap.size<=k):Apt Q v:=by
 intro ad n cap e hn hq;rcases h.2 with⟨hv,_⟩| ⟨a,c,hv,_,hc⟩
 . rw[hv] at e;cases e
 . rw[hv] at e
   obtain⟨rfl,rfl⟩:a=ad/\l.length=n:=⟨Option.some.inj (Value.slice.inj e).1,(Value.slice.inj e).2.1⟩;have:=(hc 0 hn).1;have:=hQ _ hq;omega
end Go.Proofs.YtedabomlfcghoaaGreat
