/- What the law rests on. -/
import Derived.Deep.RegionLaw
import Derived.Deep.AppendLies
import Derived.Deep.RegionHeld
import Derived.Lib.SlBytesConst
import Derived.StillTailTactics
import Derived.Deep.RegionHeldLaw
import Derived.Great.BuildSlice
import Derived.Test.YtfpdajplfmakhaaGreatDoorQC1
open Go.Value renaming int->I,slice->Ak,pointer->Al,tuple->AH,bool->AP,agg->BN
open Go.IntKind renaming i64->Ad
open Go.Proofs.Tryz renaming prog->Ae
open Option renaming none->J,some->Y
open Go renaming World->G,Value->X,Calls->Av,Oper->BE,strOfNums->BX,wpList->Cf,TypeId->Cg
open Go.Ending renaming returned->Aj
open Go.Obj renaming cells->Am
open Go.RowKit renaming Below->Ap
open List renaming replicate->Aw,length_cons->Bm,range->Bu
open Bool renaming false->Ay,true->AE
open Or renaming inl->AU,inr->AW
open Int renaming toNat_natCast->Cd
namespace Go.Proofs.YtfpdajplfmakhaaGreatDoor
set_option maxHeartbeats 12000000
set_option linter.unusedVariables false
set_option maxRecDepth 100000
theorem AF:type_of% @List.length_set:=@List.length_set
theorem AG:type_of% @Bool.true_and:=@Bool.true_and
theorem AS:type_of% @Go.bodyPost_ret:=@Go.bodyPost_ret
theorem AT:type_of% @Nat.zero_le:=@Nat.zero_le
theorem A0:type_of% @Option.some.inj:=@Option.some.inj
theorem A5:type_of% @Go.World.cell?_of_block:=@Go.World.cell?_of_block
theorem A9:type_of% @Nat.not_lt_zero:=@Nat.not_lt_zero
theorem Be:type_of% @List.getElem_mem:=@List.getElem_mem
theorem Bp:type_of% @List.getElem?_set_ne:=@List.getElem?_set_ne
theorem BA:type_of% @List.mem_singleton:=@List.mem_singleton
theorem B0:type_of% @Go.ByteArray.toList_eq:=@Go.ByteArray.toList_eq
theorem Ce:type_of% @beq_eq_false_iff_ne:=@beq_eq_false_iff_ne
theorem Cj:type_of% @List.mem_cons_self:=@List.mem_cons_self
theorem Cq:type_of% @Go.heap_alloc_last:=@Go.heap_alloc_last
theorem CE:type_of% @Go.World.cell?_setCells_out:=@Go.World.cell?_setCells_out
theorem CT:type_of% @Ne.symm:=@Ne.symm
theorem Dh:type_of% @List.all_eq_true:=@List.all_eq_true
theorem DU:type_of% @Nat.le_of_eq:=@Nat.le_of_eq
theorem D8:type_of% @List.mem_or_eq_of_mem_set:=@List.mem_or_eq_of_mem_set
theorem Ew:type_of% @List.mem_cons:=@List.mem_cons
theorem E3:type_of% @Go.World.setRow_alloc_new:=@Go.World.setRow_alloc_new
theorem Fw:type_of% @List.take_append_drop:=@List.take_append_drop
theorem Gt:type_of% @Go.all_oneCell_toArray:=@Go.all_oneCell_toArray
theorem GY:type_of% @Go.World.rangeAt_setCells_apart:=@Go.World.rangeAt_setCells_apart
theorem Ut:type_of% @List.getElem_take:=@List.getElem_take
section
open Go.RowKit BM
theorem R4{w:G}{v:X}{O:List (Int × Int)}(hs:OwSl w v O)(h:FM O=AE):Av Ae 68 #[v] w fun e w'=>∃ v,e=Aj (AH #[v,I Ad 0])/\BSl w' v (DM O)/\Ap w.heap.size w w':=
 (Ph hs).mono fun e w' ho=>ho.elim (fun h1=>h1.2) fun h1=>by rw[h] at h1;cases h1.1
theorem X7{w:G}{v:X}{O:List (Int × Int)}(hs:OwSl w v O)(h:FM O=Ay):Av Ae 68 #[v] w fun e w'=>e=Aj (AH #[Ak J 0 0,I Ad 1])/\Ap w.heap.size w w':=
 (Ph hs).mono fun e w' ho=>ho.elim (fun h1=>by rw[h] at h1;cases h1.1) fun h1=>h1.2
theorem tO{w:G}{v:X}{O:List (Int × Int)}(hs:OwSl w v O)(g:Int)(h:¬ ((0<=g/\g<12)/\FM O=AE)):
 Av Ae 69 #[I Ad g,v] w fun e w'=>e=Aj (AH #[BN #[I Ad 0,Ak J 0 0],I Ad 1])/\Ap w.heap.size w w':=by
 have hb1:=As w (Am #[I Ad 0,Ak J 0 0] 152);have hr1:=Ar w (Am #[I Ad 0,Ak J 0 0] 152);obtain⟨w1,hw1⟩:=nm (w.alloc (Am #[I Ad 0,Ak J 0 0] 152));rw[<- hw1] at hb1 hr1;have H1:=wM hw1.symm;have HR1:=wM hr1;have IL:=hs.below hb1;cases ha:FM O
 . have HA:=wM (X7 IL ha)
   clear hs IL h ha hw1 hr1;by_cases g0:g<0
   all_goals (try (by_cases g1:11<g))
   all_goals
    go_enter Tryz.func69,Tryz.ntmps69
    go_wp2_with (first
     |(go_at_call 68;rw[H1.out];refine HA.out.mono ?_;rintro e w2 ⟨rfl,hb2⟩;have hr2:=Bs HR1.out hb2)
     |(with_reducible refine FB rfl 152 JM (.tmp 4) (.tmp 25) rfl w.heap.size rfl _ _ _ _ rfl rfl rfl _ hr2 ?_;intro w3 hw3 hr3))
    exact AS (IP rfl Tryz.underlying152 JM _ _ w.heap.size _ _ _ _ rfl hr3 rfl) rfl ⟨rfl,(hb1.trans (hb2.mono hb1.size)).trans (hw3.below (At _))⟩
 . have HA:=wM (R4 IL ha)
   have hg:g<0\/11<g:=by
    by_cases g0:0<=g/\g<12
    . exact absurd ⟨g0,ha⟩ h
    . omega
   clear hs IL h ha hw1 hr1;by_cases g0:g<0
   . clear hg
     go_enter Tryz.func69,Tryz.ntmps69
     go_wp2_with (first
      |(go_at_call 68;rw[H1.out];refine HA.out.mono ?_;rintro e w2 ⟨v2,rfl,Ot,hb2⟩;have hr2:=Bs HR1.out hb2)
      |(with_reducible refine FB rfl 152 JM (.tmp 4) (.tmp 25) rfl w.heap.size rfl _ _ _ _ rfl rfl rfl _ hr2 ?_;intro w3 hw3 hr3))
     exact AS (IP rfl Tryz.underlying152 JM _ _ w.heap.size _ _ _ _ rfl hr3 rfl) rfl ⟨rfl,(hb1.trans (hb2.mono hb1.size)).trans (hw3.below (At _))⟩
   . have g1:11<g:=by omega
     clear hg;go_enter Tryz.func69,Tryz.ntmps69
     go_wp2_with (first
      |(go_at_call 68;rw[H1.out];refine HA.out.mono ?_;rintro e w2 ⟨v2,rfl,Ot,hb2⟩;have hr2:=Bs HR1.out hb2)
      |(with_reducible refine FB rfl 152 JM (.tmp 4) (.tmp 25) rfl w.heap.size rfl _ _ _ _ rfl rfl rfl _ hr2 ?_;intro w3 hw3 hr3))
     exact AS (IP rfl Tryz.underlying152 JM _ _ w.heap.size _ _ _ _ rfl hr3 rfl) rfl ⟨rfl,(hb1.trans (hb2.mono hb1.size)).trans (hw3.below (At _))⟩
theorem KR.wrote{w w':G}{B g:Nat}{v:X}{L:List Bool}(h:KR w B v L)(hw:Wrote w w' g)(hne:∀ m,v.ownBlock=Y m->m≠g):KR w' B v L:=by
 refine⟨h.1,?_⟩;rcases h.2 with h| ⟨k,cap,cur,hv,hg,hh,r⟩
 . exact AU h
 . exact AW ⟨k,cap,cur,hv,hg,by rw[hw.2.2.2.2 k (hne k (by rw[hv];rfl))];exact hh,r⟩
theorem dN{w wr w3:G}{gd gg cap:Nat}{g:Int}{vL:X}{L:List Bool}{ub:Bool}{T:Cg}{Z:Obj}(hd:wr.heap[gd]? =Y (Am #[I Ad g,vL] T (0,0)))(hkr:KR wr (gd+1) vL L)
 (hz:wr.heap[w.heap.size]? =Y Z) (hwd:w.heap.size<gd) (hb:Ap w.heap.size w wr) (hgrow:((wr.alloc (Am #[AP ub] 4)).drew).grownBy w3 vL.ownBlock)
 (hown:w3.ownsRow (gd+1) 4 1 (Ak (Y ⟨gg,0,J⟩) (L.length+1) cap) (L.length+1) (L.map X.bool ++ [AP ub])):
 (w3.setCell ⟨gd,1,J⟩ (Ak (Y ⟨gg,0,J⟩) (L.length+1) cap)).heap[gd]? =Y (Am #[I Ad g,Ak (Y ⟨gg,0,J⟩) (L.length+1) cap] T (0,0))/\
 KR (w3.setCell ⟨gd,1,J⟩ (Ak (Y ⟨gg,0,J⟩) (L.length+1) cap)) (gd+1) (Ak (Y ⟨gg,0,J⟩) (L.length+1) cap) (L ++ [ub])/\
 (w3.setCell ⟨gd,1,J⟩ (Ak (Y ⟨gg,0,J⟩) (L.length+1) cap)).heap[w.heap.size]? =Y Z/\Ap w.heap.size w (w3.setCell ⟨gd,1,J⟩ (Ak (Y ⟨gg,0,J⟩) (L.length+1) cap)):=by
 have Un:gd<wr.heap.size:=(Ah.1 hd).1;have Uo:∀ m,vL.ownBlock=Y m->gd+1<=m:=fun m hm=>(BO hkr m hm).1
 have hbx:Ap wr.heap.size wr (wr.alloc (Am #[AP ub] 4)).drew:=(As _ _).drew;have old:∀ k,k<=gd->w3.heap[k]? =wr.heap[k]? :=fun k hk=>by
  rw[hgrow.block k (by simp;omega) (fun e=>by have:=Uo k e.symm;omega)];exact hbx.block k (by omega)
 refine⟨?_,?_,?_,?_⟩
 . rw[A8 w3 gd 1 _ _ _ ((old gd (At _)).trans hd)];rfl
 . rcases hown.2 with⟨hv,_⟩| ⟨g',cap',cur,hv,hg,hh,r⟩
   . simp at hv
   . obtain⟨rfl,rfl⟩:gg=g'/\cap=cap':=by simpa using hv
     have e:(L ++ [ub]).length=L.length+1:=(by simp);rw[KR,e,Cp];exact⟨hown.1,AW ⟨gg,cap,cur,rfl,hg,by rw[AN w3 ⟨gd,1,J⟩ gg _ (show gg≠gd by omega)];exact hh,r⟩⟩
 . rw[AN w3 ⟨gd,1,J⟩ _ _ (show w.heap.size≠gd by omega),old _ (by omega)];exact hz
 . have hb3:Ap w.heap.size w w3:=(hb.trans (hbx.mono hb.size)).grown hgrow (by simp;have:=hb.size;omega) (fun k hk=>by have:=Uo k hk;omega)
   exact hb3.setCell (p:=⟨gd,1,J⟩) (by show w.heap.size<=gd;omega) _
theorem f9{w:G}{v:X}{O:List (Int × Int)}(hs:OwSl w v O)(g:Int)(hg1:0<=g)(hg2:g<12)(ha:FM O=AE):
 Av Ae 69 #[I Ad g,v] w fun e w'=>∃ v,e=Aj (AH #[BN #[I Ad g,v],I Ad 0])/\KR w' w.heap.size v (CQ O 64)/\Ap w.heap.size w w':=by
 have hb1:=As w (Am #[I Ad 0,Ak J 0 0] 152);have hr1:=Ar w (Am #[I Ad 0,Ak J 0 0] 152);obtain⟨w1,hw1⟩:=nm (w.alloc (Am #[I Ad 0,Ak J 0 0] 152));rw[<- hw1] at hb1 hr1;have SE:w.heap.size<w1.heap.size:=by rw[hw1];simp
 have H1:=wM hw1.symm;have HR1:=wM hr1;have IL:=hs.below hb1;have HA:=wM (R4 IL ha);have hO:=IU ha;obtain⟨b,off,cap,rfl,hb,hc⟩:=hs.at (by omega);have HC:=wM hc;have HBB:=wM hs.1;have HO:=wM hO;have g1:¬ 11<g:=by omega
 have g0:¬ g<0:=by omega
 rw[hO] at HA |-
 clear hs IL hw1 ha hc hO hr1;go_enter Tryz.func69,Tryz.ntmps69
 go_wp2_with (first
  |(go_at_call 68;rw[H1.out];refine HA.out.mono ?_;rintro e w2 ⟨v2,rfl,Ot,hb2⟩;have hr2:=Bs HR1.out hb2))
 have hb3:=As w2 (Am #[I Ad g,Ak J 0 0] 152);have bi:=Ar w2 (Am #[I Ad g,Ak J 0 0] 152);generalize w2.alloc (Am #[I Ad g,Ak J 0 0] 152)=w3 at hb3 bi |-
 have hr3:=Bs hr2 hb3;obtain⟨gd,Du⟩:=nm w2.heap.size;rw[<- Du] at bi |-
 have hwd:w.heap.size<gd:=by have:=hb2.size;omega
 have hb03:Ap w.heap.size w w3:=(hb1.trans (hb2.mono hb1.size)).trans (hb3.mono (by omega));have qo:gd<w3.heap.size:=(Ah.1 bi).1;have HD3:=wM bi;have HR3:=wM hr3;clear bi hr3 hr2 hb3 hb2 Ot Du;go_loopw [30] (fun i wr=>∃ k:Nat,k<=64/\i=I Ad k/\∃ vL,Hid (wr.heap[gd]? =Y (Am #[I Ad g,vL] 152 (0,0)))/\Hid (KR wr (gd+1) vL (CQ O k))/\Hid (wr.heap[w.heap.size]? =Y (Am #[I Ad 0,Ak J 0 0] 152 (0,0)))/\Ap w.heap.size w wr) (fun i _=>64-(intOf i).toNat)
 case atStart=>exact⟨0,by omega,rfl,_,HD3,ro _ _,HR3,hb03⟩
 case round=>
  obtain⟨k,hk,rfl,vL,HD,HKR,HRC,hbr⟩:=hrel;clear HD3 HR3 hb03;by_cases hlt:k<64
  . have hck:=HC.out k (by rw[HO.out];exact hlt)
    have hbd:=HBB.out k;have qp:EO O k=decide ((O.getD k (0,0)).1≠0):=rfl;have mf:=PN O k;obtain⟨x,hx⟩:=nm ((O.getD k (0,0)).1);rw[<- hx] at hck hbd qp;have c1:=(hbr.cell (p:=⟨b,off+k*2,J⟩) hb).trans hck.1;have c2:wr.cell? ⟨gd,1,J⟩=Y vL:=(by rw[Aq _ _ _ _ _ _ HD.out];rfl);have ek:(k:Int)<64:=(by omega);obtain⟨ub,r9⟩:=nm (EO O k);rw[<- r9] at mf qp;have hxb:(x != 0)=ub:=by rw[qp];by_cases h0:x=0 <;> simp[h0]
    have HSU:=wM mf;have HUL:=wM (EH O k);clear hx hck qp r9 mf;obtain⟨i,hi1,hi2,gC,lF⟩:=Bf fO;have pc:(X.bool Ay).cells.size=1:=rfl;have Un:gd<wr.heap.size:=(Ah.1 HD.out).1;have Uo:∀ m,vL.ownBlock=Y m->gd+1<=m:=fun m hm=>(BO HKR.out m hm).1
    have lG:Y gd≠vL.ownBlock:=fun e=>by have:=Uo gd e.symm;omega
    have fz:wr.frozen? ⟨gd,1,J⟩=Ay:=frozen_of_row _ _ _ _ _ HD.out;have hc3:∀ w3,((wr.alloc (Am #[AP ub] 4)).drew).grownBy w3 vL.ownBlock->w3.cell? ⟨gd,1,J⟩=Y vL/\w3.frozen? ⟨gd,1,J⟩=Ay:=fun w3 hg=>by
     have WN:gd<((wr.alloc (Am #[AP ub] 4)).drew).heap.size:=(by simp;omega);rw[hg.cell_far _ WN lG,hg.frozen_far _ WN lG];exact⟨by rw[G.cell?_drew,C9 _ _ _ Un];exact c2,by rw[G.frozen?_drew,G.frozen?_alloc_past _ _ _ Un];exact fz⟩
    have HC3:=wM hc3;have HUNE:=wM Uo;have hlb:(CQ O k).length<=64:=(by rw[HUL.out];exact hk);have r_:∀ u∈[X.bool ub],u.oneCell'=AE:=fun u hu=>by simp at hu;subst hu;rfl
    clear hc3 Uo lG;go_wp2
    go_region_law
     ((refine step_append_lies _ (by rfl) _ _ _ (by rfl) (gd+1) 4 i _ 1 1 Tryz.underlying150 hi1 hi2 gC lF pc (by omega) vL (CQ O k).length ((CQ O k).map X.bool) (by rfl) ((HKR.out.alloc _).drew)
        ⟨wr.heap.size,0,J⟩ 1 1 [X.bool ub] (by rfl) (by rfl) (G.news_of_block (cs:=#[X.bool ub]) (t:=4) (fr:=(0,0)) (Ar wr _)) r_
        (by omega) (by simp only[maxLen];omega) (by omega) (by simp;omega) (wr.heap.size+1) (by simp) ?_;intro gg cap w3 SG hgrow GB hltg;obtain⟨c3,f3⟩:=HC3.out w3 hgrow))
    all_goals
     have HST:=wM (dN HD.out HKR.out HRC.out hwd hbr hgrow SG);clear SG hgrow GB;go_wp2;go_roundw
     case rel=>exact⟨k+1,by omega,by go_num,_,HST.out.1,by show KR _ _ _ (CQ O (k+1));rw[HSU.out];exact HST.out.2.1,HST.out.2.2.1,HST.out.2.2.2⟩
     case measure=>simp[intOf];omega
  . obtain rfl:k=64:=by omega
    have d0:wr.cell? ⟨gd,0,J⟩=Y (I Ad g):=(by rw[Aq _ _ _ _ _ _ HD.out];rfl);have d1:wr.cell? ⟨gd,1,J⟩=Y vL:=(by rw[Aq _ _ _ _ _ _ HD.out];rfl);have hrc:=HRC.out;obtain⟨aL,cL,rfl⟩:=HKR.out.ksl.shape;go_wp2_with (with_reducible refine FB rfl 152 JM (.tmp 4) (.tmp 45) rfl w.heap.size rfl _ _ _ _ rfl rfl rfl _ hrc ?_;intro w5 hw5 Db)
    refine AS (IP rfl Tryz.underlying152 JM _ _ w.heap.size _ _ _ _ rfl Db rfl) rfl ⟨_,rfl,?_,hbr.trans (hw5.below (At _))⟩;exact(HKR.out.more (by omega)).wrote hw5 (fun m hm=>by have:=(BO HKR.out m hm).1;omega)
theorem Jj{O:List (Int × Int)}(h:O.length=64):(DM O).length=256:=by rw[DM,Ff,h]
theorem Vk(w2:G):BSl (w2.alloc (Am #[I .u8 100,I .u8 101,I .u8 115,I .u8 99] 5 (4,5))) (Ak (Y ⟨w2.heap.size,0,J⟩) 4 4) [100,101,115,99]:=by
 refine⟨CH (by decide),AW ⟨_,4,rfl,by decide,fun j hj=>⟨by simp,rfl,?_⟩⟩⟩;have hj:j<4:=hj;have hh:(w2.alloc (Am #[I .u8 100,I .u8 101,I .u8 115,I .u8 99] 5 (4,5))).heap[w2.heap.size]? =Y (Am #[I .u8 100,I .u8 101,I .u8 115,I .u8 99] 5 (4,5)):=by
  show(w2.heap.push _)[w2.heap.size]? =_
  simp
 rw[Br,Aq _ _ _ _ _ _ hh];have:j=0\/j=1\/j=2\/j=3:=by omega
 rcases this with rfl|rfl|rfl|rfl <;> rfl
end
section
open Go.RowKit
theorem dK{l m:List Int}(hl:Fv l)(hm:Fv m)(h:(BX l).data.toList=(BX m).data.toList):l=m:=by
 have e:l.map (fun n=>UInt8.ofNat n.toNat)=m.map (fun n=>UInt8.ofNat n.toNat):=by
  rw[<- strOfNums_data,<- strOfNums_data,h]
 have hlen:l.length=m.length:=by simpa using Bt List.length e
 apply Bg hlen;intro i h1 h2;have h3:=Bt (fun z=>z[i]?) e;simp[h1,h2] at h3;have a:=C3 hl l[i] (Be h1);have b:=C3 hm m[i] (Be h2);have h4:=Bt UInt8.toNat h3;simp at h4;omega
theorem Ek{w:G}{u v:X}{l m:List Int}(hu:BSl w u l)(hv:BSl w v m):Av Ae 152 #[u,v] w fun e w'=>e=Aj (AP (decide (l=m)))/\w=w':=by
 have c1:=Ig hu;have c2:=Ig hv;have b1:=hu.1;have b2:=hv.1;have hd:((BX l).toList==(BX m).toList)=decide (l=m):=by
  by_cases e:l=m
  . rw[Az e,e];exact beq_self_eq_true _
  . rw[AB e,B0,B0]
    rw[Ce];exact fun h=>e (dK b1 b2 h)
 have HD:=wM hd;clear hu hv b1 b2 hd;go_enter Tryz.func152,Tryz.ntmps152;go_wp2;go_ret;exact⟨by rw[<- HD.out];rfl,rfl⟩
def S0(x:Int):Bool:=decide (0<=x/\x<=767)
def YZ(N:List Int)(i:Nat):Bool:=(N.take i).all fun x=>!(x==N.getD i 0)
def Y5(N:List Int)(D:List (List Int))(i:Nat):Bool:=S0 (N.getD i 0) && (decide ((D.getD i []).length=256) && YZ N i)
def Z5(N:List Int)(D:List (List Int))(k:Nat):Bool:=(Bu k).all fun i=>Y5 N D i
def Gf(N:List Int)(D:List (List Int)):Bool:=decide (N.length<=37) && (decide (D.length=N.length) && Z5 N D N.length)
theorem Nc(N:List Int)(D:List (List Int))(k:Nat):Z5 N D k=AE ↔ ∀ i,i<k->Y5 N D i=AE:=by
 unfold Z5;rw[Dh];exact⟨fun h i hi=>h i (Bd.2 hi),fun h i hi=>h i (Bd.1 hi)⟩
theorem bZ{N:List Int}{D:List (List Int)}(h:37<N.length):Gf N D=Ay:=by
 unfold Gf;rw[AB (by omega)];rfl
theorem jN{N:List Int}{D:List (List Int)}(h:D.length≠N.length):Gf N D=Ay:=by
 unfold Gf;rw[AB h];cases decide (N.length<=37) <;> rfl
theorem EJ{N:List Int}{D:List (List Int)}(h:Gf N D=AE):N.length<=37/\D.length=N.length/\∀ i,i<N.length->(0<=N.getD i 0/\N.getD i 0<=767)/\(D.getD i []).length=256/\YZ N i=AE:=by
 unfold Gf at h;rw[AQ,AQ,A4,A4] at h;refine⟨h.1,h.2.1,fun i hi=>?_⟩;have:=(Nc N D _).1 h.2.2 i hi;unfold Y5 S0 at this;rw[AQ,AQ,A4,A4] at this;exact⟨this.1,this.2.1,this.2.2⟩
theorem QB(N:List Int)(i:Nat)(hi:i<N.length):YZ N i=AE ↔ ∀ j,j<i->N.getD j 0≠N.getD i 0:=by
 unfold YZ;rw[Dh];constructor
 . intro h j hj
   have MV:j<(N.take i).length:=(by rw[AJ];omega);have:=h _ (Be MV);rw[Ut] at this;have e:N.getD j 0=N[j]'(by omega):=(by simp[show j<N.length by omega]);rw[e]
   simpa using this
 . intro h x hx
   obtain⟨j,hj,rfl⟩:=Cw hx;rw[AJ] at hj;rw[Ut];have:=h j (by omega);have e:N.getD j 0=N[j]'(by omega):=(by simp[show j<N.length by omega]);rw[e] at this
   simpa using this
def jrnl:List Int:=[106,114,110,108]
def Qw:List Int:=[100,111,110,101]
def IW(N:List Int):List Int:=N.flatMap fun n=>BT n 2
def Cv(q:Int)(N:List Int):List Int:=jrnl ++ BT q 4 ++ BT (N.length:Int) 2 ++ IW N
def DX(q:Int):List Int:=Qw ++ BT q 4
def Iw(q:Int)(N:List Int)(D:List (List Int)):List (List Int):=BK (Cv q N) :: (D ++ [BK (DX q)])
theorem Kk(N:List Int):(IW N).length=2*N.length:=by
 unfold IW;induction N with
 |nil=>rfl
 |cons x N ih=>rw[CD,AD,ih,Bc,Bm];omega
theorem dx(N:List Int)(x:Int):IW (N ++ [x])=IW N ++ BT x 2:=by
 unfold IW;rw[DW];simp
theorem fD(N:List Int)(k:Nat)(h:k<N.length):IW (N.take (k+1))=IW (N.take k) ++ BT (N.getD k 0) 2:=by
 rw[Bz h,dx];simp[h]
theorem Gh(q:Int)(N:List Int):(Cv q N).length=10+2*N.length:=by
 simp only[Cv,AD,Bc,Kk];have:jrnl.length=4:=rfl;omega
theorem Kf(q:Int):(DX q).length=8:=by
 rw[DX,AD,Bc];rfl
theorem Mj(q:Int)(N:List Int)(D:List (List Int)):(Iw q N D).length=D.length+2:=by simp[Iw]
theorem iJ:Fv jrnl:=CH fun x hx=>by simp[jrnl] at hx;omega
theorem jm:Fv Qw:=CH fun x hx=>by simp[Qw] at hx;omega
theorem Ic(A R:List Int)(n:Int)(k:Nat)(h:0<=n)(a:Nat)(ha:A.length=a):Cl (A ++ (BT n k ++ R)) a k=n%256 ^ k:=by
 subst ha;unfold Cl;rw[List.drop_left,Dz (Bc n k),JP n k h]
theorem RQ(q:Int)(N:List Int)(h:N.length<=37):(BK (Cv q N)).take 252=DH (Cv q N):=by
 rw[BK,Dz];exact EK _ (by rw[Gh];omega)
theorem VZ(q:Int)(N:List Int)(h0:0<=q)(h1:q<4294967296):Cl (DH (Cv q N)) 4 4=q:=by
 have e:DH (Cv q N)=jrnl ++ (BT q 4 ++ (BT (N.length:Int) 2 ++ (IW N ++ Aw (252-(Cv q N).length) 0))):=by
  unfold DH Cv;simp
 rw[e,Ic _ _ q 4 h0 4 rfl];exact DQ h0 (by simpa using h1)
theorem Qt(q:Int)(N:List Int)(h:N.length<=37):Cl (DH (Cv q N)) 8 2=(N.length:Int):=by
 have e:DH (Cv q N)=(jrnl ++ BT q 4) ++ (BT (N.length:Int) 2 ++ (IW N ++ Aw (252-(Cv q N).length) 0)):=by
  unfold DH Cv;simp
 have hl:(jrnl ++ BT q 4).length=8:=by rw[AD,Bc];rfl
 rw[e,Ic _ _ _ 2 (by omega) 8 hl];exact DQ (by omega) (by omega)
theorem XD(N:List Int)(i:Nat)(hi:i<N.length):IW N=IW (N.take i) ++ (BT (N.getD i 0) 2 ++ IW (N.drop (i+1))):=by
 have e:N=N.take i ++ (N[i] :: N.drop (i+1)):=by rw[<- IK hi,Fw]
 have e2:N.getD i 0=N[i]:=by simp[hi]
 rw[e2]
 conv=>lhs;rw[e]
 unfold IW;rw[DW,CD]
theorem Oe(q:Int)(N:List Int)(i:Nat)(hi:i<N.length)(hn:0<=N.getD i 0/\N.getD i 0<=767):Cl (DH (Cv q N)) (10+2*i) 2=N.getD i 0:=by
 have e:DH (Cv q N)=(jrnl ++ BT q 4 ++ BT (N.length:Int) 2 ++ IW (N.take i)) ++ (BT (N.getD i 0) 2 ++ (IW (N.drop (i+1)) ++ Aw (252-(Cv q N).length) 0)):=by
  have e1:Cv q N=jrnl ++ BT q 4 ++ BT (N.length:Int) 2 ++ (IW (N.take i) ++ (BT (N.getD i 0) 2 ++ IW (N.drop (i+1)))):=by
   rw[<- XD N i hi];rfl
  unfold DH;generalize Aw (252-(Cv q N).length) (0:Int)=Z;rw[e1];simp only[A7]
 have hl:(jrnl ++ BT q 4 ++ BT (N.length:Int) 2 ++ IW (N.take i)).length=10+2*i:=by
  simp only[AD,Bc,Kk,AJ];have:jrnl.length=4:=rfl;omega
 rw[e,Ic _ _ _ 2 hn.1 _ hl];exact DQ hn.1 (by omega)
def cB(b:List Int):List X:=b.map (I .u8)
theorem CG(b:List Int):(cB b).length=b.length:=by simp[cB]
theorem GV(b:List Int):∀ v∈cB b,v.oneCell'=AE:=fun v hv=>by obtain⟨x,_,rfl⟩:=BZ.1 hv;rfl
def cU(x:Nat × List Int):List X:=I Ad x.1 :: cB x.2
theorem Rz(x:Nat × List Int):(cU x).length=x.2.length+1:=by simp[cU,CG]
theorem Yy(x:Nat × List Int):∀ v∈cU x,v.oneCell'=AE:=fun v hv=>by
 rcases Ew.1 hv with rfl|h
 . rfl
 . exact GV _ v h
def WY(b:List Int):Prop:=b.length=256/\Fv b
theorem Er{L:List (List Int)}(h:∀ b∈L,WY b):∀ x∈L,(cB x).length=256:=fun x hx=>by rw[CG,(h x hx).1]
theorem SD{L:List (Nat × List Int)}(h:∀ x∈L,WY x.2):∀ x∈L,(cU x).length=257:=fun x hx=>by rw[Rz,(h x hx).1]
def zB:List X:=Aw 256 (I .u8 0)
theorem Fj:zB.length=256:=A3
theorem qj:(Ae.info? 164).map (fun i=>(i.zero,i.size,i.bytes))=Y (Y (BN zB.toArray),256,256):=by kernel_rfl
theorem aB:(Ae.info? 168).map (fun i=>(i.zero,i.size,i.bytes))=Y (Y (BN (I Ad 0 :: zB).toArray),257,264):=by kernel_rfl
theorem GF(w:G){ops:Array BE}{rest:List BE}{o:BE}{a:Act}{Q:Exit->Act->G->Prop}(hg:o.guard=J)(JF:o.op=Op.alloc 164)
 (hK:Cf Ae ops Q rest (a.put o.dst (Al (Y ⟨w.heap.size,0,J⟩))) (w.alloc (Am zB.toArray 164))):Cf Ae ops Q (o :: rest) a w:=by
 refine CA hg fun K hK'=>?_
 have hz:=(zero_of_info (v:=BN zB.toArray) (n:=256) (t:=164) (P:=Ae) (by
  obtain⟨i,h2,h3,h4,h5⟩:=Bf qj;simp[h2,h3,h4])).1 w
 unfold BE.wp execOp;simp only[JF,Instr.alloc,newVar,newRow,Dg,hz,Result.andThen_ok,X.cells];exact hK' _ _ hK
theorem PS:(Ae.info? 164).map (·.size)=Y 256:=by kernel_rfl
theorem YI:Ae.built 164 []=Y zB.toArray:=by kernel_rfl
theorem Rn(w:G){ops:Array BE}{rest:List BE}{o:BE}{a:Act}{Q:Exit->Act->G->Prop}(hg:o.guard=J)(JF:o.op=Op.build 164 #[])
 (hK:Cf Ae ops Q rest (a.put o.dst (BN zB.toArray)) w):Cf Ae ops Q (o :: rest) a w:=by
 refine CA hg fun K hK'=>?_
 have hb:Ae.built 164 ((#[]:Array (Nat × Operand)).map fun(i,x)=>(i,a.eval x)).toList=Y zB.toArray:=by simpa using YI
 exact wp_build 164 #[] JF (by rw[hb];rfl) (by rw[hb];exact hK' _ _ hK)
theorem FH(w:G){ops:Array BE}{rest:List BE}{o:BE}{a:Act}{Q:Exit->Act->G->Prop}(hg:o.guard=J)(x y:Operand)(JF:o.op=Op.store 164 x y)
 (g:Nat) (t:Cg) (old cells:List X) (hx:a.eval x=Al (Y ⟨g,0,J⟩)) (hy:a.eval y=BN cells.toArray) (hh:w.heap[g]? =Y (Am old.toArray t (0,0))) (ho:old.length=256) (hc:cells.length=256) (h1:∀ v∈cells,v.oneCell'=AE)
 (hK:Cf Ae ops Q rest (a.put o.dst undef) (w.setRow g cells.toArray)):Cf Ae ops Q (o :: rest) a w:=
 C0 hg 164 x y JF g cells.toArray hx hy t old.toArray hh (by rw[PS];simp[hc]) (by simp[ho,hc]) (Gt h1) hK
theorem ME(w:G){ops:Array BE}{rest:List BE}{o:BE}{a:Act}{Q:Exit->Act->G->Prop}(hg:o.guard=J)(x:Operand)(JF:o.op=Op.load 164 x)
 (g off:Nat) (cells:List X) (hx:a.eval x=Al (Y ⟨g,off,J⟩)) (hr:w.rangeAt g off cells) (hc:cells.length=256)
 (hK:Cf Ae ops Q rest (a.put o.dst (BN cells.toArray)) w):Cf Ae ops Q (o :: rest) a w:=
 wpList_load_mid hg 164 x JF g off hx cells _ hr Tryz.underlying164 rfl (by rw[PS,hc]) hK
theorem MP{w:G}{v:X}{l:List Int}(hv:BSl w v l)(hl:l.length=256):
 Av Ae 77 #[v] w fun e w'=>e=Aj (BN (cB l).toArray)/\Ap w.heap.size w w':=by
 obtain⟨ao,cap,rfl,Cx⟩:=hv.shape;obtain⟨M,hM⟩:=nm l.length;have hlen:Ae.arrayLen 164=256:=by kernel_rfl
 have harr:Ae.underlying 164=Y (.array 256 5):=Tryz.underlying164;have HZ:=wM Fj;have HL:=wM hl;have hone:∀ v∈zB,v.oneCell'=AE:=fun v hv=>by rw[BS hv];rfl
 rw[<- hM] at hv |-
 have Um:=Fi hv (fun _ _=>rfl) (w1:=w) l.length;rw[BP] at Um;have HM:Hid (M=256):=by rw[hM];exact HL
 clear hl Cx hM;go_enter Tryz.func77,Tryz.ntmps77
 go_wp2_with (first
  |with_reducible refine GF _ rfl rfl ?_
  |with_reducible refine Rn _ rfl rfl ?_
  |(refine FH _ rfl _ _ (by rfl) _ 164 zB zB (by rfl) (by rfl) (Cq _ _) HZ.out HZ.out hone ?_
    rw[E3])
  |(refine C6 (by rfl) _ _ _ _ (by rfl) 5 Tryz.underlying77 (by kernel_rfl) _ _ _ _ _ _ (by rfl) (by rfl) (w.heap.size+1) 0 zB 164 ?_ (cB l) 256 (by rw[CG];exact HL.out) ?_ ?_ ?_ (GV l) ?_))
 . rw[show w.heap.size+1=(w.alloc (Am zB.toArray 164)).heap.size by simp];exact Cq _ _
 . rw[HM.out];rfl
 . intro Js
   obtain⟨ad,rfl,hc⟩:=Um Js;refine⟨ad,rfl,fun j v hj=>?_⟩;have sa:=hc j v hj;have hlt:=G.block_lt_of_cell? w _ sa;rw[C9 _ _ _ (AA hlt (by simp)),C9 _ _ _ hlt,sa]
 . rw[CG,HL.out,HZ.out];exact At _
 intro w' hrow hwr;rw[EM _ _ (by rw[CG,HL.out,HZ.out])] at hrow;have qq:w'.heap[w.heap.size]? =Y (Am zB.toArray 164 (0,0)):=by
  rw[hwr.2.2.2.2 _ (by omega),@heap_alloc_old _ _ _ (by simp)];exact Cq _ _
 go_wp2_with (first
  |(refine ME _ rfl _ (by rfl) _ 0 (cB l) (by rfl) (Ev hrow.out (by rw[CP,BP])) (by rw[CG];exact HL.out) ?_)
  |(refine FH _ rfl _ _ (by rfl) _ 164 zB (cB l) (by rfl) (by rfl) qq HZ.out (by rw[CG];exact HL.out) (GV l) ?_))
 have Lw:=CC w' w.heap.size _ (cB l).toArray 164 _ qq;refine AS (v:=BN (cB l).toArray) ?_ rfl ⟨rfl,?_⟩
 . exact results_cell_row rfl _ _ w.heap.size 164 (cB l).toArray (0,0) _ (by rfl) Lw harr rfl (by rw[PS];simp[CG,HL.out])
 . have b1:Ap w.heap.size w ((w.alloc (Am zB.toArray 164)).alloc (Am zB.toArray 164)):=((AC _ _).alloc (At _) _).alloc (by simp) _
   have b2:Ap w.heap.size _ w':=hwr.below (by omega);exact(b1.trans b2).trans ((Wrote.setRow w' w.heap.size _).below (At _))
structure DskAt (w:G) (B bp bf bv:Nat) (u:X) (F V:List (List Int)) (U:List (Nat × List Int)) (fu:Bool) (le:Int) (dn:Bool):Prop where
 bB:B<=bp/\B<=bf/\B<=bv
 ne:bp≠bf/\bp≠bv/\bf≠bv
 hp:w.heap[bp]? =Y (Am #[Ak (Y ⟨bf,0,J⟩) F.length F.length,Ak (Y ⟨bv,0,J⟩) V.length V.length,u,AP fu,I Ad le,AP dn] 143 (0,0))
 hf:w.heap[bf]? =Y (Am (F.flatMap cB).toArray 164 (0,0))
 hv:w.heap[bv]? =Y (Am (V.flatMap cB).toArray 164 (0,0))
 hu:w.ownsRow B 168 257 u U.length (U.flatMap cU)
 une:u.ownBlock≠Y bp/\u.ownBlock≠Y bf/\u.ownBlock≠Y bv
 okF:∀ b∈F,WY b
 okV:∀ b∈V,WY b
 okU:∀ x∈U,x.1<V.length/\WY x.2
 len:F.length=V.length
 max:V.length<=2000
def wF(w:G)(B:Nat)(p:X)(F V:List (List Int))(U:List (Nat × List Int)):Prop:=
 ∃ bp bf bv u,p=Al (Y ⟨bp,0,J⟩)/\DskAt w B bp bf bv u F V U Ay 0 Ay
theorem DskAt.below{w w':G}{B bp bf bv:Nat}{u:X}{F V:List (List Int)}{U:List (Nat × List Int)}{fu dn:Bool}{le:Int}(h:DskAt w B bp bf bv u F V U fu le dn)(hb:Ap w.heap.size w w'):DskAt w' B bp bf bv u F V U fu le dn:=by
 have key:∀ {g:Nat} {o:Obj},w.heap[g]? =Y o->w'.heap[g]? =Y o:=fun hg=>by
  rw[hb.block _ (Ah.1 hg).1];exact hg
 refine { h with hp:=key h.hp,hf:=key h.hf,hv:=key h.hv,hu:=⟨h.hu.1,?_⟩ };rcases h.hu.2 with h| ⟨g,cap,cur,hv,hg,hh,r⟩
 . exact AU h
 . exact AW ⟨g,cap,cur,hv,hg,key hh,r⟩
section
variable {w:G}{B bp bf bv:Nat}{u:X}{F V:List (List Int)}{U:List (Nat × List Int)}{fu dn:Bool}{le:Int}
theorem DskAt.c0(h:DskAt w B bp bf bv u F V U fu le dn):w.cell? ⟨bp,0,J⟩=Y (Ak (Y ⟨bf,0,J⟩) F.length F.length):=by rw[Aq _ _ _ _ _ _ h.hp];rfl
theorem DskAt.c1(h:DskAt w B bp bf bv u F V U fu le dn):w.cell? ⟨bp,1,J⟩=Y (Ak (Y ⟨bv,0,J⟩) V.length V.length):=by rw[Aq _ _ _ _ _ _ h.hp];rfl
theorem DskAt.c2(h:DskAt w B bp bf bv u F V U fu le dn):w.cell? ⟨bp,2,J⟩=Y u:=by rw[Aq _ _ _ _ _ _ h.hp];rfl
theorem DskAt.c3(h:DskAt w B bp bf bv u F V U fu le dn):w.cell? ⟨bp,3,J⟩=Y (AP fu):=by rw[Aq _ _ _ _ _ _ h.hp];rfl
theorem DskAt.c4(h:DskAt w B bp bf bv u F V U fu le dn):w.cell? ⟨bp,4,J⟩=Y (I Ad le):=by rw[Aq _ _ _ _ _ _ h.hp];rfl
theorem DskAt.c5(h:DskAt w B bp bf bv u F V U fu le dn):w.cell? ⟨bp,5,J⟩=Y (AP dn):=by rw[Aq _ _ _ _ _ _ h.hp];rfl
theorem DskAt.fr(h:DskAt w B bp bf bv u F V U fu le dn)(i:Nat):w.frozen? ⟨bp,i,J⟩=Ay:=by simp[G.frozen?,h.hp]
theorem DskAt.shapeU(h:DskAt w B bp bf bv u F V U fu le dn):∃ ao cap,u=Ak ao U.length cap:=by
 rcases h.hu.2 with⟨hv,h0⟩| ⟨g,cap,cur,hv,_⟩
 . exact⟨J,0,by rw[hv,h0]⟩
 . exact⟨_,cap,hv⟩
end
theorem TV{w:G}{B bp bf bv:Nat}{u:X}{F V:List (List Int)}{U:List (Nat × List Int)}{fu dn:Bool}{le:Int}(h:DskAt w B bp bf bv u F V U fu le dn)(n:Int):
 Av Ae 118 #[Al (Y ⟨bp,0,J⟩),I Ad n] w fun e w'=>e=Aj (AP (decide (0<=n/\n<V.length)))/\w=w':=by
 have c1:=h.c1;by_cases h0:0<=n
 . go_enter Tryz.func118,Tryz.ntmps118
   go_wp2;go_ret;refine⟨?_,rfl⟩;simp[h0]
 . go_enter Tryz.func118,Tryz.ntmps118
   go_wp2;go_ret;refine⟨?_,rfl⟩;rw[AB (by omega)];rfl
theorem MQ{w:G}{B bp bf bv:Nat}{u:X}{F V:List (List Int)}{U:List (Nat × List Int)}{fu dn:Bool}{le:Int}(h:DskAt w B bp bf bv u F V U fu le dn)(n:Int){v:X}{l:List Int}(hv:BSl w v l):
 Av Ae 76 #[Al (Y ⟨bp,0,J⟩),I Ad n,v] w fun e w'=>e=Aj (AP (decide ((0<=n/\n<V.length)/\l.length=256)))/\w=w':=by
 obtain⟨ao,cap,rfl,_⟩:=hv.shape;by_cases hn:0<=n/\n<V.length
 . go_enter Tryz.func76,Tryz.ntmps76
   go_wp2_with (go_at_call 118;refine(TV h n).mono ?_;rintro e w' ⟨rfl,rfl⟩;rw[Az hn])
   go_ret;refine⟨?_,rfl⟩;by_cases hl:l.length=256
   . rw[Az ⟨hn,hl⟩];simp[hl]
   . rw[AB (fun h=>hl h.2)];simp;omega
 . go_enter Tryz.func76,Tryz.ntmps76
   go_wp2_with (go_at_call 118;refine(TV h n).mono ?_;rintro e w' ⟨rfl,rfl⟩;rw[AB hn])
   go_ret;exact⟨by rw[AB (fun h=>hn h.1)];rfl,rfl⟩
def zb:List Int:=Aw 256 0
theorem Nk:zb.length=256:=A3
theorem iV:WY zb:=⟨Nk,C4 256⟩
theorem tI:cB zb=Aw 256 (I .u8 0):=List.map_replicate
theorem nU(n:Nat):(Aw n zb).flatMap cB=Aw (n*256) (I .u8 0):=by
 refine List.eq_replicate_iff.2 ⟨?_,fun v hv=>?_⟩
 . rw[CM (s:=256) (fun x hx=>by rw[BS hx,CG,Nk]),A3]
 . obtain⟨b,hb,hv⟩:=List.mem_flatMap.1 hv
   rw[BS hb,tI] at hv;exact BS hv
theorem eZ(n:Nat):madeCells zB.toArray n=(Aw n (I .u8 0)).toArray:=by
 apply Array.ext
 . simp[madeCells]
 . intro i h1 h2
   have hs:zB.toArray.size=256:=(by rw[List.size_toArray,Fj]);have hlt:i%zB.toArray.size<zB.toArray.size:=Nat.mod_lt _ (by rw[hs];decide);simp only[madeCells,Array.getElem_map,Array.getElem_range,List.getElem_toArray,List.getElem_replicate];rw[getElem!_pos zB.toArray _ hlt,List.getElem_toArray];exact BS (Be _)
def Q7(n:Nat):Array X:=((Aw n zb).flatMap cB).toArray
theorem Vg(W:G)(n:Nat)(hn:n<=2000):(Instr.makeSlice 140 (I Ad n) (I Ad n)).run Ae W=.ok (Ak (Y ⟨W.heap.size,0,J⟩) n n) (W.alloc (Am (Q7 n) 164)):=by
 obtain⟨i,h2,h3,h4,h5⟩:=Bf qj;have CX:=run_make (P:=Ae) W 140 164 i (BN zB.toArray) Tryz.underlying140 h2 h3 Ad Ad n n (by omega) (by omega) (by rw[h5];omega) (by omega);simp only[Cd,h4] at CX;rw[CX,show(X.agg zB.toArray).cells=zB.toArray from rfl,eZ,Q7,nU]
theorem iv(w:G)(n:Nat)(hn:n<=2000)(bf bv:Nat)(hb:(bf=w.heap.size/\bv=w.heap.size+1)\/(bf=w.heap.size+1/\bv=w.heap.size)):
 wF (((w.alloc (Am (Q7 n) 164)).alloc (Am (Q7 n) 164)).alloc (Am #[Ak (Y ⟨bf,0,J⟩) n n,Ak (Y ⟨bv,0,J⟩) n n,Ak J 0 0,AP Ay,I Ad 0,AP Ay] 143)).drew
  w.heap.size (Al (Y ⟨w.heap.size+1+1,0,J⟩)) (Aw n zb) (Aw n zb) []:=by
 have s1:(w.alloc (Am (Q7 n) 164)).heap.size=w.heap.size+1:=by simp
 have s2:((w.alloc (Am (Q7 n) 164)).alloc (Am (Q7 n) 164)).heap.size=w.heap.size+1+1:=by simp
 have row:∀ (o:Obj) g,g=w.heap.size\/g=w.heap.size+1->(((w.alloc (Am (Q7 n) 164)).alloc (Am (Q7 n) 164)).alloc o).heap[g]? =Y (Am (Q7 n) 164 (0,0)):=by
  rintro o g (rfl|rfl)
  . rw[@heap_alloc_old _ _ _ (by rw[s2];omega),@heap_alloc_old _ _ _ (by rw[s1];omega)];exact Cq _ _
  . rw[@heap_alloc_old _ _ _ (by rw[s2];omega),<- s1];exact Cq _ _
 have hlen:(Aw n zb).length=n:=A3;refine⟨w.heap.size+1+1,bf,bv,Ak J 0 0,rfl,?_⟩
 refine⟨by omega,by omega,?_,row _ bf (by omega),row _ bv (by omega),⟨rfl,AU ⟨rfl,rfl⟩⟩,⟨by simp[X.ownBlock],by simp[X.ownBlock],by simp[X.ownBlock]⟩,
  fun b hb=>by rw[BS hb];exact iV,fun b hb=>by rw[BS hb];exact iV,fun x hx=>by simp at hx,rfl,by rw[hlen];exact hn⟩
 rw[hlen,<- s2];exact Cq _ _
theorem mG(w:G)(n:Nat)(hn:n<=2000):
 Av Ae 35 #[I Ad n] w fun e w'=>∃ p,e=Aj p/\p≠Al J/\wF w' w.heap.size p (Aw n zb) (Aw n zb) []/\Ap w.heap.size w w':=by
 have sc:=fun W=>Vg W n hn
 have e1:Max.max (n:Int) 0=n:=by omega
 have e2:Min.min (n:Int) 2000=n:=by omega
 have e3:((n:Int)<0)=False:=by simp
 go_enter Tryz.func35,Tryz.ntmps35;go_wp2_with fail
 go_region
 . go_wp2
   go_ret;exact⟨_,rfl,by simp,iv w n hn _ _ (by omega),AM ((((AC _ _).alloc (At _) _).alloc (by simp) _).alloc (by simp;omega) _) 1⟩
 . go_wp2
   go_ret;exact⟨_,rfl,by simp,iv w n hn _ _ (by omega),AM ((((AC _ _).alloc (At _) _).alloc (by simp) _).alloc (by simp;omega) _) 1⟩
theorem RR:∀ (l:List X) (k off:Nat) (cells:List X),off+k+l.length<=cells.length->
 (l.zipIdx k).foldl (fun(cs:Array X) (x:X × Nat)=>cs.setIfInBounds (off+x.2) x.1) cells.toArray=(splice cells (off+k) l).toArray
 |[],k,off,cells,_=>by simp[splice]
 |v :: l,k,off,cells,h=>by
  have hl:off+k+(l.length+1)<=cells.length:=by simpa using h
  rw[List.zipIdx_cons,List.foldl_cons,show cells.toArray.setIfInBounds (off+k) v=(cells.set (off+k) v).toArray by simp,
   RR l (k+1) off _ (by rw[AF];omega)]
  have e:=list_seg_step cells (off+k) v l (by omega);simp only[splice,<- Dt]
  simpa [Dt] using Bt List.toArray e
theorem Ny(place:Nat->Option (Nat × Nat))(cells:List X)(i off size:Nat)(v:X)(vs:List X)(rest:List (Nat × X))(hp:place i=Y (off,size))(hv:v.cells=vs.toArray)(hs:vs.length=size)(hl:off+size<=cells.length):
 Instr.fill place cells.toArray ((i,v) :: rest)=Instr.fill place (splice cells off vs).toArray rest:=by
 have hf:=RR vs 0 off cells (by omega);rw[Nat.add_zero] at hf;rw[Instr.fill,hp];have c1:¬ (vs.toArray.size≠size\/off+vs.toArray.size > cells.toArray.size):=by simp;omega
 simp only[hv];rw[Ax (by simpa using c1)];congr 1;rw[<- hf];simp
theorem Vr(W:G)(n:Int)(b:List Int)(hb:b.length=256):(Instr.build 168 #[(0,I Ad n),(1,BN (cB b).toArray)]).run Ae W=.ok (BN (I Ad n :: cB b).toArray) W:=by
 refine run_build W 168 _ _ ?_;have hz:=Fj;have bj:=CG b;obtain⟨it,h2,h3,h4,h5⟩:=Bf aB;have hu:Ae.underlying 168=_:=Tryz.underlying168;unfold Program.built;rw[h2,hu];simp only[h3];generalize hm:(List.mapM (m:=Option) _ _:Option (List (Nat × Nat)))=m;have hm':m=Y [(0,1),(1,256)]:=by rw[<- hm];kernel_rfl
 subst hm';clear hm;show Instr.fill _ (I Ad 0 :: zB).toArray _=_
 rw[Ny _ _ 0 0 1 (I Ad n) [I Ad n] _ rfl rfl rfl (by rw[Bm];omega),
  show splice (I Ad 0 :: zB) 0 [I Ad n]=I Ad n :: zB from rfl,
  Ny _ _ 1 1 256 (BN (cB b).toArray) (cB b) _ rfl rfl (by rw[bj,hb]) (by rw[Bm];omega),
  show splice (I Ad n :: zB) 1 (cB b)=I Ad n :: splice zB 0 (cB b) by simp only[splice];rw[Nat.add_comm 1];simp,EM _ _ (by rw[bj,hb,hz])]
 rfl
theorem Vl(W:G)(cs:List X)(hc:cs.length=257):(Instr.buildSlice 141 1 #[(0,BN cs.toArray)]).run Ae W=.ok (Ak (Y ⟨W.heap.size,0,J⟩) 1 1) (W.alloc (Am cs.toArray 168)):=by
 have hz:=Fj;obtain⟨i,h2,h3,h4,h5⟩:=Bf aB;refine run_buildSlice W 141 168 1 _ cs.toArray i (BN (I Ad 0 :: zB).toArray) Tryz.underlying141 h2 h3 (by rw[h4];decide) (by rw[h4];decide) ?_;rw[h4];generalize hA:Array.map _ _=A;have hs:A.toList.length=257:=by rw[<- hA];simp
 obtain⟨L,rfl⟩:∃ L:List X,A=L.toArray:=⟨A.toList,by simp⟩;clear hA
 rw[show(#[((0:Nat),X.agg cs.toArray)]:Array (Nat × X)).toList=[(0,BN cs.toArray)] from rfl,Ny _ _ 0 0 257 (BN cs.toArray) cs _ rfl rfl hc (by simpa using DU hs.symm),
  EM _ _ (by rw[hc];exact hs.symm)]
 rfl
section
variable {w:G}{B bp bf bv:Nat}{u:X}{F V:List (List Int)}{U:List (Nat × List Int)}{fu dn:Bool}{le:Int}
theorem DskAt.setV(h:DskAt w B bp bf bv u F V U fu le dn){W:G}(hw:Ap w.heap.size w W)(n:Nat)(hn:n<V.length)(b:List Int)(hb:WY b):
 DskAt (W.setCells bv (n*256) (cB b)) B bp bf bv u F (V.set n b) U fu le dn/\Wrote W (W.setCells bv (n*256) (cB b)) bv:=by
 have h':=h.below hw;have hl:=CG b;have bk:=CM (Er h.okV);have e:=Fk (vs:=cB b) h'.hv (o:=n*256) (by rw[hl,hb.1,bk];omega) (GV b);rw[I7 (Er h.okV) n hn b (by rw[hl,hb.1])] at e;rw[e];have hwr:=Wrote.setRow W bv ((V.set n b).flatMap cB).toArray;have key:∀ {g:Nat} {o:Obj},g≠bv->W.heap[g]? =Y o->(W.setRow bv ((V.set n b).flatMap cB).toArray).heap[g]? =Y o:=fun hg hh=>by
  rw[hwr.2.2.2.2 _ hg];exact hh
 refine⟨⟨h.bB,h.ne,by rw[AF];exact key h.ne.2.1 h'.hp,key h.ne.2.2 h'.hf,CC _ _ _ _ _ _ h'.hv,⟨h.hu.1,?_⟩,h.une,h.okF,?_,fun x hx=>by rw[AF];exact h.okU x hx,by rw[AF];exact h.len,by rw[AF];exact h.max⟩,hwr⟩
 . rcases h'.hu.2 with h0| ⟨g,cap,cur,hv,hg,hh,r⟩
   . exact AU h0
   . exact AW ⟨g,cap,cur,hv,hg,key (fun e=>h.une.2.2 (by rw[hv,<- e];rfl)) hh,r⟩
 . intro x hx
   rcases D8 hx with hx|rfl
   . exact h.okV x hx
   . exact hb
end
end
section
open Go.RowKit
theorem DskAt.pushU{w:G}{B bp bf bv:Nat}{u:X}{F V:List (List Int)}{U:List (Nat × List Int)}{fu dn:Bool}{le:Int}(h:DskAt w B bp bf bv u F V U fu le dn){W w3:G}(hw:Ap w.heap.size w W)(hB:B<=w.heap.size)
 (hgrow:W.grownBy w3 u.ownBlock) (g cap:Nat) (x:Nat × List Int) (hx:x.1<V.length/\WY x.2) (hown:w3.ownsRow B 168 257 (Ak (Y ⟨g,0,J⟩) (U.length+1) cap) (U.length+1) (U.flatMap cU ++ cU x)) (GB:u.ownBlock=Y g\/g=W.heap.size):
 DskAt (w3.setCell ⟨bp,2,J⟩ (Ak (Y ⟨g,0,J⟩) (U.length+1) cap)) B bp bf bv (Ak (Y ⟨g,0,J⟩) (U.length+1) cap) F V (U ++ [x]) fu le dn/\Ap B w (w3.setCell ⟨bp,2,J⟩ (Ak (Y ⟨g,0,J⟩) (U.length+1) cap)):=by
 have h':=h.below hw;have l1:=(Ah.1 h'.hp).1;have l2:=(Ah.1 h'.hf).1;have l3:=(Ah.1 h'.hv).1;have n1:=h.une;have key:∀ {k:Nat} {o:Obj},Y k≠u.ownBlock->W.heap[k]? =Y o->w3.heap[k]? =Y o:=fun hk hh=>by
  rw[hgrow.block _ (Ah.1 hh).1 hk];exact hh
 have gne:g≠bp/\g≠bf/\g≠bv:=by
  rcases GB with GB|GB
  . rw[GB] at n1
    exact⟨fun e=>n1.1 (by rw[e]),fun e=>n1.2.1 (by rw[e]),fun e=>n1.2.2 (by rw[e])⟩
  . omega
 have hne:=h.ne;have oth:∀ {k:Nat},k≠bp->(w3.setCell ⟨bp,2,J⟩ (Ak (Y ⟨g,0,J⟩) (U.length+1) cap)).heap[k]? =w3.heap[k]? :=fun hk=>AN _ _ _ _ hk
 have ul:(U ++ [x]).flatMap cU=U.flatMap cU ++ cU x:=by simp
 have hln:(U ++ [x]).length=U.length+1:=by simp
 refine⟨⟨h.bB,h.ne,?_,?_,?_,?_,?_,h.okF,h.okV,?_,h.len,h.max⟩,?_⟩
 . have:=A8 w3 bp 2 _ _ (Ak (Y ⟨g,0,J⟩) (U.length+1) cap) (key (CT n1.1) h'.hp)
   simpa using this
 . rw[oth (CT hne.1)];exact key (CT n1.2.1) h'.hf
 . rw[oth (CT hne.2.1)];exact key (CT n1.2.2) h'.hv
 . rw[ul,hln]
   refine⟨hown.1,?_⟩;rcases hown.2 with⟨h0,_⟩| ⟨g',cap',cur,hv,hg,hh,r⟩
   . simp at h0
   . simp only[Ak.injEq,Option.some.injEq,Addr.mk.injEq,and_true,true_and] at hv
     obtain⟨rfl,rfl⟩:=hv;exact AW ⟨g,cap,cur,rfl,hg,by rw[oth gne.1];exact hh,r⟩
 . refine⟨fun e=>gne.1 (by simpa [X.ownBlock] using e),fun e=>gne.2.1 (by simpa [X.ownBlock] using e),fun e=>gne.2.2 (by simpa [X.ownBlock] using e)⟩
 . intro y hy
   rcases BI.1 hy with hy|hy
   . exact h.okU y hy
   . obtain rfl:=BA.1 hy;exact hx
 . refine Ap.setCell (((hw.mono hB)).grown hgrow (AI hB hw.size) fun k hk=>(h.hu.lt k hk).1) (by exact h.bB.1) _
attribute [-go_sem] Instr.build Instr.buildSlice loadCellsFrom
end
section
open Go.RowKit
def Q0(kp:Nat->Bool)(U:List (Nat × List Int))(F:List (List Int)):Nat->List (List Int)
 |0=>F
 |k+1=>if kp k then (Q0 kp U F k).set (U.getD k (0,[])).1 (U.getD k (0,[])).2 else Q0 kp U F k
def XG(U:List (Nat × List Int))(F1 V:List (List Int)):Nat->List (List Int)
 |0=>V
 |k+1=>(XG U F1 V k).set (U.getD k (0,[])).1 (F1.getD (U.getD k (0,[])).1 [])
theorem Pg(kp:Nat->Bool)(U:List (Nat × List Int))(F:List (List Int)):∀ k,(Q0 kp U F k).length=F.length
 |0=>rfl
 |k+1=>by
  have:=Pg kp U F k;unfold Q0;split
  . rw[AF,this]
  . exact this
theorem If(U:List (Nat × List Int))(F1 V:List (List Int)):∀ k,(XG U F1 V k).length=V.length
 |0=>rfl
 |k+1=>by
  have:=If U F1 V k;unfold XG;rw[AF,this]
structure Frm (w W:G) (g1 g2:Nat):Prop where
 os:W.os=w.os
 tape:W.tape=w.tape
 output:W.output=w.output
 size:w.heap.size<=W.heap.size
 block:∀ k,k<w.heap.size->k≠g1->k≠g2->W.heap[k]? =w.heap[k]?
theorem Frm.refl(w:G)(g1 g2:Nat):Frm w w g1 g2:=⟨rfl,rfl,rfl,At _,fun _ _ _ _=>rfl⟩
theorem Frm.below{w W:G}{g1 g2 B:Nat}(h:Frm w W g1 g2)(h1:B<=g1)(h2:B<=g2)(hB:B<=w.heap.size):Ap B w W:=
 ⟨h.os,h.tape,h.output,h.size,fun k hk=>h.block k (by omega) (by omega) (by omega)⟩
theorem Frm.trans{a b c:G}{g1 g2:Nat}(h:Frm a b g1 g2)(k:Frm b c g1 g2):Frm a c g1 g2:=
 ⟨k.os.trans h.os,k.tape.trans h.tape,k.output.trans h.output,AI h.size k.size,fun i hi h1 h2=>(k.block i (AA hi h.size) h1 h2).trans (h.block i hi h1 h2)⟩
theorem Frm.of_below{w W:G}{g1 g2:Nat}(h:Ap w.heap.size w W):Frm w W g1 g2:=⟨h.os,h.tape,h.output,h.size,fun k hk _ _=>h.block k hk⟩
theorem Frm.of_wrote{w W:G}{g1 g2:Nat}(h:Wrote w W g1):Frm w W g1 g2:=⟨h.1,h.2.1,h.2.2.1,DU h.2.2.2.1.symm,fun k _ h1 _=>h.2.2.2.2 k h1⟩
theorem Frm.of_wrote2{w W:G}{g1 g2:Nat}(h:Wrote w W g2):Frm w W g1 g2:=⟨h.1,h.2.1,h.2.2.1,DU h.2.2.2.1.symm,fun k _ _ h2=>h.2.2.2.2 k h2⟩
structure Fr3 (w W:G) (g1 g2 g3:Nat):Prop where
 os:W.os=w.os
 tape:W.tape=w.tape
 output:W.output=w.output
 size:w.heap.size<=W.heap.size
 block:∀ k,k<w.heap.size->k≠g1->k≠g2->k≠g3->W.heap[k]? =w.heap[k]?
theorem Fr3.set{w W:G}{g2 g3:Nat}(h:Frm w W g2 g3)(g1 i:Nat)(x:X):Fr3 w (W.setCell ⟨g1,i,J⟩ x) g1 g2 g3:=
 ⟨h.os,h.tape,h.output,by simp[G.setCell];exact h.size,fun k hk h1 h2 h3=>by rw[AN _ _ _ _ h1];exact h.block k hk h2 h3⟩
section
variable {w:G}{B bp bf bv:Nat}{u:X}{F V:List (List Int)}{U:List (Nat × List Int)}{fu dn:Bool}{le:Int}
theorem DskAt.setF(h:DskAt w B bp bf bv u F V U fu le dn){W:G}(hw:Ap w.heap.size w W)(n:Nat)(hn:n<F.length)(b:List Int)(hb:WY b):
 DskAt (W.setCells bf (n*256) (cB b)) B bp bf bv u (F.set n b) V U fu le dn/\Wrote W (W.setCells bf (n*256) (cB b)) bf:=by
 have h':=h.below hw;have hl:=CG b;have bk:=CM (Er h.okF);have e:=Fk (vs:=cB b) h'.hf (o:=n*256) (by rw[hl,hb.1,bk];omega) (GV b);rw[I7 (Er h.okF) n hn b (by rw[hl,hb.1])] at e;rw[e];have hwr:=Wrote.setRow W bf ((F.set n b).flatMap cB).toArray;have key:∀ {g:Nat} {o:Obj},g≠bf->W.heap[g]? =Y o->(W.setRow bf ((F.set n b).flatMap cB).toArray).heap[g]? =Y o:=fun hg hh=>by
  rw[hwr.2.2.2.2 _ hg];exact hh
 refine⟨⟨h.bB,h.ne,by rw[AF];exact key h.ne.1 h'.hp,CC _ _ _ _ _ _ h'.hf,key (CT h.ne.2.2) h'.hv,⟨h.hu.1,?_⟩,h.une,?_,h.okV,h.okU,by rw[AF];exact h.len,h.max⟩,hwr⟩
 . rcases h'.hu.2 with h0| ⟨g,cap,cur,hv,hg,hh,r⟩
   . exact AU h0
   . exact AW ⟨g,cap,cur,hv,hg,key (fun e=>h.une.2.1 (by rw[hv,<- e];rfl)) hh,r⟩
 . intro x hx
   rcases D8 hx with hx|rfl
   . exact h.okF x hx
   . exact hb
theorem DskAt.noU(h:DskAt w B bp bf bv u F V U fu le dn):DskAt (w.setCell ⟨bp,2,J⟩ (Ak J 0 0)) B bp bf bv (Ak J 0 0) F V [] fu le dn:=by
 have oth:∀ {k:Nat},k≠bp->(w.setCell ⟨bp,2,J⟩ (Ak J 0 0)).heap[k]? =w.heap[k]? :=fun hk=>AN _ _ _ _ hk
 refine⟨h.bB,h.ne,?_,?_,?_,⟨rfl,AU ⟨rfl,rfl⟩⟩,⟨by simp[X.ownBlock],by simp[X.ownBlock],by simp[X.ownBlock]⟩,h.okF,h.okV,fun x hx=>by simp at hx,h.len,h.max⟩
 . have:=A8 w bp 2 _ _ (Ak J 0 0) h.hp
   simpa using this
 . rw[oth (CT h.ne.1)];exact h.hf
 . rw[oth (CT h.ne.2.1)];exact h.hv
theorem DskAt.rangeU(h:DskAt w B bp bf bv u F V U fu le dn)(i:Nat)(hi:i<U.length):∃ g cap,u=Ak (Y ⟨g,0,J⟩) U.length cap/\g<w.heap.size/\w.rangeAt g (i*257) (cU U[i]):=by
 have bk:=CM (SD fun x hx=>(h.okU x hx).2);rcases h.hu.2 with⟨_,h0⟩| ⟨g,cap,cur,hv,hg,hh,h1,h2,h3,h4⟩
 . omega
 . have hc:=Rz U[i]
   have hb:=(h.okU U[i] (Be _)).2.1;have hu:=Gb (SD fun x hx=>(h.okU x hx).2) i hi;refine⟨g,cap,hv,(Ah.1 hh).1,Ev (cur:=cur.toList) (by simpa using hh) ?_⟩;rw[hc,hb,<- h4,List.drop_take,List.take_take] at*
   rw[<- hu];congr 1;have:(i+1)*257<=U.length*257:=Nat.mul_le_mul_right _ hi;rw[Nat.succ_mul] at this;omega
end
theorem pT:(Ae.info? 168).map (·.size)=Y 257:=by kernel_rfl
theorem IC(w:G){ops:Array BE}{rest:List BE}{o:BE}{a:Act}{Q:Exit->Act->G->Prop}(hg:o.guard=J)(JF:o.op=Op.alloc 168)
 (hK:Cf Ae ops Q rest (a.put o.dst (Al (Y ⟨w.heap.size,0,J⟩))) (w.alloc (Am (I Ad 0 :: zB).toArray 168))):Cf Ae ops Q (o :: rest) a w:=by
 refine CA hg fun K hK'=>?_
 have hz:=(zero_of_info (v:=BN (I Ad 0 :: zB).toArray) (n:=257) (t:=168) (P:=Ae) (by
  obtain⟨i,h2,h3,h4,h5⟩:=Bf aB;simp[h2,h3,h4])).1 w
 unfold BE.wp execOp;simp only[JF,Instr.alloc,newVar,newRow,Dg,hz,Result.andThen_ok,X.cells];exact hK' _ _ hK
theorem Je(w:G){ops:Array BE}{rest:List BE}{o:BE}{a:Act}{Q:Exit->Act->G->Prop}(hg:o.guard=J)(x:Operand)(JF:o.op=Op.load 168 x)
 (g off:Nat) (cells:List X) (hx:a.eval x=Al (Y ⟨g,off,J⟩)) (hr:w.rangeAt g off cells) (hc:cells.length=257)
 (hK:Cf Ae ops Q rest (a.put o.dst (BN cells.toArray)) w):Cf Ae ops Q (o :: rest) a w:=
 wpList_load_mid hg 168 x JF g off hx cells _ hr Tryz.underlying168 rfl (by rw[pT,hc]) hK
theorem IE(w:G){ops:Array BE}{rest:List BE}{o:BE}{a:Act}{Q:Exit->Act->G->Prop}(hg:o.guard=J)(x y:Operand)(JF:o.op=Op.store 168 x y)
 (g:Nat) (t:Cg) (old cells:List X) (hx:a.eval x=Al (Y ⟨g,0,J⟩)) (hy:a.eval y=BN cells.toArray) (hh:w.heap[g]? =Y (Am old.toArray t (0,0))) (ho:old.length=257) (hc:cells.length=257) (h1:∀ v∈cells,v.oneCell'=AE)
 (hK:Cf Ae ops Q rest (a.put o.dst undef) (w.setRow g cells.toArray)):Cf Ae ops Q (o :: rest) a w:=
 C0 hg 168 x y JF g cells.toArray hx hy t old.toArray hh (by rw[pT];simp[hc]) (by simp[ho,hc]) (Gt h1) hK
def tL(w:G)(B bp bf bv:Nat)(F V:List (List Int))(U:List (Nat × List Int))(fu:Bool)(le:Int)(dn:Bool)(kp:Nat->Bool)(e:Ending)(w':G):Prop:=
 e=Aj (AH #[])/\DskAt w' B bp bf bv (Ak J 0 0) (Q0 kp U F U.length) (XG U (Q0 kp U F U.length) V U.length) [] fu le dn/\Ap B w w'/\Fr3 w w' bp bf bv
theorem fA{w:G}{B bp bf bv:Nat}{u:X}{F V:List (List Int)}{U:List (Nat × List Int)}{fu dn:Bool}{le:Int}(h:DskAt w B bp bf bv u F V U fu le dn)(sd:B<=w.heap.size)(hUl:U.length<=1000000)(kp:Nat->Bool)
 (hk:∀ W,Frm w W bf bv->∀ i,i<U.length->Av Ae 166 #[I Ad i] W fun e w'=>e=Aj (AP (kp i))/\∃ m,w'=W.drewN m):
 Av Ae 165 #[Al (Y ⟨bp,0,J⟩),.func (.func 166) #[] #[]] w (tL w B bp bf bv F V U fu le dn kp):=by
 obtain⟨ao,cap,rfl⟩:=h.shapeU;have c2:=h.c2;have HU:Hid (∀ x∈U,x.1<V.length/\WY x.2):=h.okU;have HLen:Hid (F.length=V.length):=h.len;have HZ:=wM Fj;have HBw:=wM sd;have HbB:Hid (B<=bp/\B<=bf/\B<=bv):=h.bB;have hdr:∀ (W:G) (m:Nat),Ap W.heap.size W (W.drewN m):=fun W m=>AM (AC _ _) m
 clear sd;go_enter Tryz.func165,Tryz.ntmps165;go_wp2_with fail
 have HD0:Hid (DskAt w B bp bf bv (Ak ao U.length cap) F V U fu le dn):=h;clear h c2
 go_loopw [13] (fun i wr=>∃ k:Nat,k<=U.length/\i=I Ad k/\Hid (DskAt wr B bp bf bv (Ak ao U.length cap) (Q0 kp U F k) V U fu le dn)/\Hid (Frm w wr bf bv))
  (fun i _=>U.length-(intOf i).toNat)
 case atStart=>exact⟨0,by omega,rfl,HD0,Frm.refl _ _ _⟩
 case round=>
  obtain⟨k,hkn,rfl,HD,HF⟩:=hrel;by_cases hlt:k<U.length
  . have WN:(k:Int)<(U.length:Int):=by omega
    obtain⟨g,cap',hu,MX,hr⟩:=HD.out.rangeU k hlt;obtain⟨rfl,rfl⟩:ao=Y ⟨g,0,J⟩/\cap'=cap:=⟨(AY hu).1,(AY hu).2.2.symm⟩;have hx:=HU.out U[k] (Be _);have Du:U.getD k (0,[])=U[k]:=(by rw[An,AL hlt];rfl);obtain⟨⟨at_,data⟩,gO⟩:∃ x,x=U[k]:=⟨_,rfl⟩;rw[<- gO] at hx hr Du;have HX:Hid (at_<V.length/\WY data):=hx;have HR:Hid (wr.rangeAt g (k*257) (I Ad at_ :: cB data)):=hr;have HG:=wM Du;have HL:Hid ((cB data).length=256):=(by show _=_;rw[CG,hx.2.1]);have HL1:Hid ((I Ad at_ :: cB data).length=257):=(by show _=_;rw[Bm,HL.out]);have h1c:∀ v∈(I Ad at_ :: cB data),v.oneCell'=AE:=Yy (at_,data);obtain⟨H1,WO⟩:=nm wr.heap.size;have hba:Ap wr.heap.size wr (wr.alloc (Am (I Ad at_ :: cB data).toArray 168)):=(AC _ _).alloc (At _) _;have hra:(wr.alloc (Am (I Ad at_ :: cB data).toArray 168)).heap[H1]? =Y (Am (I Ad at_ :: cB data).toArray 168 (0,0)):=(by rw[WO];exact Cq _ _);have HK:Hid (∀ m,Frm w ((wr.alloc (Am (I Ad at_ :: cB data).toArray 168)).drewN m) bf bv):=fun m=>(HF.out.trans (Frm.of_below hba)).trans (Frm.of_below (hdr _ m))
    have HK0:Hid (Frm w (wr.alloc (Am (I Ad at_ :: cB data).toArray 168)) bf bv):=HF.out.trans (Frm.of_below hba);have HRA:=wM hra;have HBA:=wM hba;have HH1:=wM WO;clear hu hr hx Du gO hra hba HU WO;cases hkp:kp k
    . have HKP:=wM hkp
      go_wp2_with (first
       |(refine Je _ rfl _ (by rfl) g (k*257) (I Ad at_ :: cB data) (by rfl) HR.out HL1.out ?_)
       |with_reducible refine IC _ rfl rfl ?_
       |(refine IE _ rfl _ _ (by rfl) _ 168 (I Ad 0 :: zB) (I Ad at_ :: cB data) (by rfl) (by rfl) (Cq _ _) (by rw[Bm,HZ.out]) HL1.out h1c ?_
         rw[E3])
       |(go_at_call 166;refine(hk _ HK0.out k hlt).mono ?_;rintro e w2 ⟨rfl,m,rfl⟩;rw[HKP.out]))
      go_roundw
      case rel=>exact⟨k+1,by omega,by go_num,(by
       show DskAt _ B bp bf bv _ (Q0 kp U F (k+1)) V U fu le dn
       rw[Q0,Ax (by rw[HKP.out];decide)];exact HD.out.below (HBA.out.trans ((hdr _ m).mono HBA.out.size))),HK.out m⟩
      case measure=>simp[intOf];omega
    . have HKP:=wM hkp
      go_wp2_with (first
       |(refine Je _ rfl _ (by rfl) g (k*257) (I Ad at_ :: cB data) (by rfl) HR.out HL1.out ?_)
       |with_reducible refine IC _ rfl rfl ?_
       |(refine IE _ rfl _ _ (by rfl) _ 168 (I Ad 0 :: zB) (I Ad at_ :: cB data) (by rfl) (by rfl) (Cq _ _) (by rw[Bm,HZ.out]) HL1.out h1c ?_
         rw[E3])
       |(go_at_call 166;refine(hk _ HK0.out k hlt).mono ?_;rintro e w2 ⟨rfl,m,rfl⟩;rw[HKP.out]))
      obtain⟨W1,hW1⟩:=nm ((wr.alloc (Am (I Ad at_ :: cB data).toArray 168)).drewN m);have hb1:Ap wr.heap.size wr W1:=(by rw[hW1];exact HBA.out.trans ((hdr _ m).mono HBA.out.size));have hf1:Frm w W1 bf bv:=(by rw[hW1];exact HK.out m);have hr1:W1.heap[H1]? =Y (Am (I Ad at_ :: cB data).toArray 168 (0,0)):=(by rw[hW1];exact HRA.out);rw[<- hW1,<- HH1.out];clear hW1;have hD1:=HD.out.below hb1;have Un:bp<H1/\bf<H1/\bv<H1:=by
       have e1:=(Ah.1 HD.out.hp).1;have e2:=(Ah.1 HD.out.hf).1;have e3:=(Ah.1 HD.out.hv).1;have:=HH1.out;omega
      have hne:=HD.out.ne;have hln:(Q0 kp U F k).length=F.length:=Pg _ _ _ _;have tf:at_<(Q0 kp U F k).length:=by rw[hln,HLen.out];exact HX.out.1
      obtain⟨NF,th⟩:=nm ((Q0 kp U F k).length);have c0:=hD1.c0;rw[<- th] at c0 tf;have haF':(at_:Int)<(NF:Int):=(by omega);have r0:W1.cell? ⟨H1,0,J⟩=Y (I Ad at_):=(by rw[Aq _ _ _ _ _ _ hr1];rfl);have rL:W1.rangeAt H1 1 (cB data):=Ev hr1 (by simp);have tF:W1.there bf (at_*256) (cB data).length:=Fg hD1.hf (by rw[HL.out,CM (Er hD1.okF)];omega);have lH:=GV data;have r9:=Tryz.underlying164;have se:(Ae.info? 164).map (·.size)=Y (cB data).length:=(by rw[PS,HL.out]);have hlen:=HL.out;obtain⟨hD2,gD⟩:=HD.out.setF (W:=W1.drew) (hb1.drew) at_ (by rw[<- th];exact tf) data HX.out.2;have hf2:=(hf1.trans (Frm.of_below (hdr W1 1))).trans (Frm.of_wrote (g2:=bv) gD);have HD2:=wM hD2;have HF2:=wM hf2;have HW2:=wM gD;have hS1:W1.drew.cell? ⟨bp,0,J⟩=Y (Ak (Y ⟨bf,0,J⟩) NF NF)/\W1.drew.cell? ⟨H1,0,J⟩=Y (I Ad at_)/\W1.drew.rangeAt H1 1 (cB data)/\W1.drew.there bf (at_*256) (cB data).length:=⟨c0,r0,rL,tF⟩;have hS2:(W1.drew.setCells bf (at_*256) (cB data)).cell? ⟨bp,0,J⟩=Y (Ak (Y ⟨bf,0,J⟩) NF NF)/\(W1.drew.setCells bf (at_*256) (cB data)).cell? ⟨H1,0,J⟩=Y (I Ad at_)/\(W1.drew.setCells bf (at_*256) (cB data)).rangeAt H1 1 (cB data)/\(W1.drew.setCells bf (at_*256) (cB data)).there bf (at_*256) (cB data).length:=
       ⟨by rw[CE _ _ _ _ _ (fun e=>absurd e hne.1)];exact c0,by rw[CE _ _ _ _ _ (fun e=>by have e:H1=bf:=e;omega)];exact r0,GY hS1.2.2.1 _ _ _ (AU (by omega)),G.there_setCells hS1.2.2.2 _ _ _⟩
      clear hD1 hb1 hf1 hr1 c0 r0 rL tF hD2 gD hf2 hln th
      go_region_held (fun W=>W.cell? ⟨bp,0,J⟩=Y (Ak (Y ⟨bf,0,J⟩) NF NF)/\W.cell? ⟨H1,0,J⟩=Y (I Ad at_)/\W.rangeAt H1 1 (cB data)/\W.there bf (at_*256) (cB data).length) (first|exact hS1|exact hS2) (fail)
      clear hS1 hS2;go_wp2_with fail
      go_roundw
      case rel=>exact⟨k+1,by omega,by go_num,(by
       show DskAt _ B bp bf bv _ (Q0 kp U F (k+1)) V U fu le dn
       rw[Q0,Au HKP.out,HG.out];exact HD2.out),HF2.out⟩
      case measure=>simp[intOf];omega
  . obtain rfl:k=U.length:=by omega
    have hge:¬ (U.length:Int)<(U.length:Int):=(by omega);have c2:=HD.out.c2;go_wp2_with fail
    obtain⟨F1,um⟩:=nm (Q0 kp U F U.length);have HF1:=wM um;have HDa:Hid (DskAt wr B bp bf bv (Ak ao U.length cap) F1 V U fu le dn):=(by rw[um];exact HD);clear HD HD0 c2 um hk hge hkn hlt
    go_loopw [36] (fun i wq=>∃ k:Nat,k<=U.length/\i=I Ad k/\Hid (DskAt wq B bp bf bv (Ak ao U.length cap) F1 (XG U F1 V k) U fu le dn)/\Hid (Frm w wq bf bv))
     (fun i _=>U.length-(intOf i).toNat)
    case atStart=>exact⟨0,by omega,rfl,HDa,HF⟩
    case round=>
     clear HDa HF;obtain⟨k,hkn,rfl,HD,HF⟩:=hrel;by_cases hlt:k<U.length
     . have WN:(k:Int)<(U.length:Int):=by omega
       obtain⟨g,cap',hu,MX,hr⟩:=HD.out.rangeU k hlt;obtain⟨rfl,rfl⟩:ao=Y ⟨g,0,J⟩/\cap'=cap:=⟨(AY hu).1,(AY hu).2.2.symm⟩;have hx:=HU.out U[k] (Be _);have Du:U.getD k (0,[])=U[k]:=(by rw[An,AL hlt];rfl);obtain⟨⟨at_,data⟩,gO⟩:∃ x,x=U[k]:=⟨_,rfl⟩;rw[<- gO] at hx hr Du;have lI:F1.length=V.length:=(by have:=HD.out.len;rw[If] at this;exact this);have tf:at_<F1.length:=by rw[lI];exact hx.1
       have hb:WY F1[at_]:=HD.out.okF _ (Be _);have hgF:F1.getD at_ []=F1[at_]:=by rw[An,AL tf];rfl
       have hmem:=Ev HD.out.hf (o:=at_*256) (vs:=cB F1[at_]) (by rw[CG,hb.1];exact Gb (Er HD.out.okF) at_ tf);obtain⟨b,hbe⟩:=nm (F1[at_]);rw[<- hbe] at hb hgF hmem;have HX:Hid (at_<V.length/\WY data):=hx;have HR:Hid (wr.rangeAt g (k*257) (I Ad at_ :: cB data)):=hr;have HG:=wM Du;have HB:=wM hb;have HGF:=wM hgF;have HMEM:=wM hmem;have HL:Hid ((cB b).length=256):=(by show _=_;rw[CG,hb.1]);have HL1:Hid ((I Ad at_ :: cB data).length=257):=(by show _=_;rw[Bm,CG,hx.2.1]);have h1c:∀ v∈(I Ad at_ :: cB data),v.oneCell'=AE:=Yy (at_,data);obtain⟨H1,WO⟩:=nm wr.heap.size;obtain⟨W1,hW1⟩:=nm (wr.alloc (Am (I Ad at_ :: cB data).toArray 168));have hb1:Ap wr.heap.size wr W1:=(by rw[hW1];exact(AC _ _).alloc (At _) _);have hr1:W1.heap[H1]? =Y (Am (I Ad at_ :: cB data).toArray 168 (0,0)):=(by rw[hW1,WO];exact Cq _ _);have hf1:=HF.out.trans (Frm.of_below hb1);have HW1:=wM hW1;have HH1:=wM WO;clear hu hr hx Du gO WO hW1 hb hgF hmem hbe
       go_wp2_with (first
        |(refine Je _ rfl _ (by rfl) g (k*257) (I Ad at_ :: cB data) (by rfl) HR.out HL1.out ?_)
        |with_reducible refine IC _ rfl rfl ?_
        |(refine IE _ rfl _ _ (by rfl) _ 168 (I Ad 0 :: zB) (I Ad at_ :: cB data) (by rfl) (by rfl) (Cq _ _) (by rw[Bm,HZ.out]) HL1.out h1c ?_
          rw[E3]))
       rw[<- HW1.out,<- HH1.out];have hD1:=HD.out.below hb1;have Un:bp<H1/\bf<H1/\bv<H1:=by
        have e1:=(Ah.1 HD.out.hp).1;have e2:=(Ah.1 HD.out.hf).1;have e3:=(Ah.1 HD.out.hv).1;have:=HH1.out;omega
       have hne:=HD.out.ne;have haV:at_<(XG U F1 V k).length:=by rw[If];exact HX.out.1
       obtain⟨NF,th⟩:=nm F1.length;obtain⟨NV,hNV⟩:=nm ((XG U F1 V k).length);have c0:=hD1.c0;have c1:=hD1.c1;rw[<- th] at c0 tf;rw[<- hNV] at c1 haV;have haF':(at_:Int)<(NF:Int):=(by omega);have haV':(at_:Int)<(NV:Int):=(by omega);have r0:W1.cell? ⟨H1,0,J⟩=Y (I Ad at_):=(by rw[Aq _ _ _ _ _ _ hr1];rfl);have rF:W1.rangeAt bf (at_*256) (cB b):=by
        have:=HMEM.out;intro j v hj;rw[hb1.cell (p:=⟨bf,at_*256+j,J⟩) (by have:=HH1.out;show bf<_;omega)];exact this j v hj
       have tV:W1.there bv (at_*256) (cB b).length:=Fg hD1.hv (by rw[HL.out,CM (Er hD1.okV)];omega);have lH:=GV b;have r9:=Tryz.underlying164;have se:(Ae.info? 164).map (·.size)=Y (cB b).length:=(by rw[PS,HL.out]);have hlen:=HL.out;obtain⟨hD2,gD⟩:=HD.out.setV (W:=W1.drew) (hb1.drew) at_ (by rw[<- hNV];exact haV) b HB.out;have hf2:=(hf1.trans (Frm.of_below (hdr W1 1))).trans (Frm.of_wrote2 (g1:=bf) gD);have HD2:=wM hD2;have HF2:=wM hf2;have hS1:W1.drew.cell? ⟨bp,0,J⟩=Y (Ak (Y ⟨bf,0,J⟩) NF NF)/\W1.drew.cell? ⟨bp,1,J⟩=Y (Ak (Y ⟨bv,0,J⟩) NV NV)/\W1.drew.cell? ⟨H1,0,J⟩=Y (I Ad at_)/\W1.drew.rangeAt bf (at_*256) (cB b)/\W1.drew.there bv (at_*256) (cB b).length:=⟨c0,c1,r0,rF,tV⟩;have hS2:(W1.drew.setCells bv (at_*256) (cB b)).cell? ⟨bp,0,J⟩=Y (Ak (Y ⟨bf,0,J⟩) NF NF)/\(W1.drew.setCells bv (at_*256) (cB b)).cell? ⟨bp,1,J⟩=Y (Ak (Y ⟨bv,0,J⟩) NV NV)/\(W1.drew.setCells bv (at_*256) (cB b)).cell? ⟨H1,0,J⟩=Y (I Ad at_)/\(W1.drew.setCells bv (at_*256) (cB b)).rangeAt bf (at_*256) (cB b)/\(W1.drew.setCells bv (at_*256) (cB b)).there bv (at_*256) (cB b).length:=
        ⟨by rw[CE _ _ _ _ _ (fun e=>absurd e hne.2.1)];exact c0,by rw[CE _ _ _ _ _ (fun e=>absurd e hne.2.1)];exact c1,by rw[CE _ _ _ _ _ (fun e=>by have e:H1=bv:=e;omega)];exact r0,GY hS1.2.2.2.1 _ _ _ (AU hne.2.2),G.there_setCells hS1.2.2.2.2 _ _ _⟩
       clear hD1 hb1 hf1 hr1 c0 c1 r0 rF tV hD2 gD hf2 th hNV lI HU
       go_region_held (fun W=>W.cell? ⟨bp,0,J⟩=Y (Ak (Y ⟨bf,0,J⟩) NF NF)/\W.cell? ⟨bp,1,J⟩=Y (Ak (Y ⟨bv,0,J⟩) NV NV)/\W.cell? ⟨H1,0,J⟩=Y (I Ad at_)/\W.rangeAt bf (at_*256) (cB b)/\W.there bv (at_*256) (cB b).length) (first|exact hS1|exact hS2) (fail)
       clear hS1 hS2;go_wp2_with fail
       go_roundw
       case rel=>exact⟨k+1,by omega,by go_num,(by
        show DskAt _ B bp bf bv _ F1 (XG U F1 V (k+1)) U fu le dn
        rw[XG,HG.out,HGF.out];exact HD2.out),HF2.out⟩
       case measure=>simp[intOf];omega
     . obtain rfl:k=U.length:=by omega
       have hge:¬ (U.length:Int)<(U.length:Int):=(by omega);have c2:=HD.out.c2;have f2:=HD.out.fr 2;go_wp2_with fail
       go_end0
       refine⟨rfl,?_,(HF.out.below HbB.out.2.1 HbB.out.2.2 HBw.out).trans ((AC _ _).setCell HbB.out.1 _),Fr3.set HF.out bp 2 _⟩;rw[<- HF1.out];exact HD.out.noU
def fK(k:List Bool)(i:Nat):Bool:=if k.length=0 then Ay else k.getD (i%k.length) Ay
theorem UE(w:G)(i:Nat):Av Ae 166 #[I Ad i] w fun e w'=>e=Aj (AP AE)/\∃ m,w'=w.drewN m:=by
 go_enter Tryz.func166,Tryz.ntmps166;go_wp2;go_ret;exact⟨rfl,0,rfl⟩
section
variable {w:G}{B bp bf bv:Nat}{u:X}{F V:List (List Int)}{U:List (Nat × List Int)}{fu dn:Bool}{le:Int}
theorem DskAt.flags(h:DskAt w B bp bf bv u F V U fu le dn)(i:Nat)(x:X)(fu':Bool)(le':Int)(dn':Bool)
 (hs:(#[Ak (Y ⟨bf,0,J⟩) F.length F.length,Ak (Y ⟨bv,0,J⟩) V.length V.length,u,AP fu,I Ad le,AP dn]:Array X).setIfInBounds i x=#[Ak (Y ⟨bf,0,J⟩) F.length F.length,Ak (Y ⟨bv,0,J⟩) V.length V.length,u,AP fu',I Ad le',AP dn']):
 DskAt (w.setCell ⟨bp,i,J⟩ x) B bp bf bv u F V U fu' le' dn'/\Ap B w (w.setCell ⟨bp,i,J⟩ x):=by
 have oth:∀ {k:Nat},k≠bp->(w.setCell ⟨bp,i,J⟩ x).heap[k]? =w.heap[k]? :=fun hk=>AN _ _ _ _ hk
 refine⟨⟨h.bB,h.ne,?_,?_,?_,⟨h.hu.1,?_⟩,h.une,h.okF,h.okV,h.okU,h.len,h.max⟩,(AC _ _).setCell h.bB.1 _⟩
 . have:=A8 w bp i _ _ x h.hp
   rw[hs] at this;exact this
 . rw[oth (CT h.ne.1)];exact h.hf
 . rw[oth (CT h.ne.2.1)];exact h.hv
 . rcases h.hu.2 with h0| ⟨g,cap,cur,hv,hg,hh,r⟩
   . exact AU h0
   . exact AW ⟨g,cap,cur,hv,hg,by rw[oth (fun e=>h.une.1 (by rw[hv,<- e];rfl))];exact hh,r⟩
end
end
section
open Go.RowKit
def mb(fu:Bool)(le:Int)(dn:Bool):Bool:=!dn && (!fu || !decide (le=0))
def YP(fu:Bool)(le:Int)(dn:Bool):Int:=if dn=Ay/\fu=AE/\le≠0 then le-1 else le
def WZ(fu:Bool)(le:Int)(dn:Bool):Bool:=dn || (fu && decide (le=0))
section
variable {w:G}{B bp bf bv:Nat}{u:X}{F V:List (List Int)}{U:List (Nat × List Int)}{fu dn:Bool}{le:Int}
theorem Jm(h:DskAt w B bp bf bv u F V U fu le dn)(h0:0<=le)(h1:le<=9223372036854775807):
 Av Ae 164 #[Al (Y ⟨bp,0,J⟩)] w fun e w'=>e=Aj (AP (mb fu le dn))/\DskAt w' B bp bf bv u F V U fu (YP fu le dn) (WZ fu le dn)/\Wrote w w' bp:=by
 have c3:=h.c3;have c4:=h.c4;have c5:=h.c5;have f4:=h.fr 4;have f5:=h.fr 5;cases dn
 . cases fu
   . have H:=wM h
     clear h;go_enter Tryz.func164,Tryz.ntmps164;go_wp2;go_ret;exact⟨rfl,by simpa [YP,WZ] using H.out,Wrote.refl _ _⟩
   . by_cases hl:le=0
     . have H:=wM ((h.flags 5 (AP AE) AE le AE rfl).1)
       subst hl;clear h;go_enter Tryz.func164,Tryz.ntmps164;go_wp2;go_ret;exact⟨rfl,by simpa [YP,WZ] using H.out,Wrote.setCell _ _ _ _⟩
     . have H:=wM ((h.flags 4 (I Ad (le-1)) AE (le-1) Ay rfl).1)
       have hlb:(le==0)=Ay:=by simpa using hl
       have HL:=wM hl;clear h;go_enter Tryz.func164,Tryz.ntmps164;go_wp2;go_ret;have hl:=HL.out;exact⟨by simp[mb,hl],by simpa [YP,WZ,hl] using H.out,Wrote.setCell _ _ _ _⟩
 . have H:=wM h
   clear h;go_enter Tryz.func164,Tryz.ntmps164;go_wp2;go_ret;exact⟨rfl,by simpa [YP,WZ] using H.out,Wrote.refl _ _⟩
theorem BSl.apartP(h:DskAt w B bp bf bv u F V U fu le dn){v:X}{l:List Int}(hv:BSl w v l){W:G}(hw:Wrote w W bp):BSl W v l:=by
 refine⟨hv.1,?_⟩;rcases hv.2 with h0| ⟨a,cap,hva,Cx,hc⟩
 . exact AU h0
 . refine AW ⟨a,cap,hva,Cx,fun j hj=>?_⟩
   obtain⟨h1,h2,h3⟩:=hc j hj;refine⟨by rw[hw.2.2.2.1];exact h1,h2,?_⟩;have hne:a.block≠bp:=fun e=>by
    rw[e,Aq _ _ _ _ _ _ h.hp] at h3;obtain⟨ao,cu,hu⟩:=h.shapeU;rw[hu] at h3;have:a.off+j=0\/a.off+j=1\/a.off+j=2\/a.off+j=3\/a.off+j=4\/a.off+j=5\/6<=a.off+j:=(by omega);rcases this with e|e|e|e|e|e|e
    . rw[e] at h3;simp at h3
    . rw[e] at h3;simp at h3
    . rw[e] at h3;simp at h3
    . rw[e] at h3;simp at h3
    . rw[e] at h3;simp at h3
    . rw[e] at h3;simp at h3
    . rw[Array.getElem?_eq_none (by simpa using e)] at h3;cases h3
   rw[A5 (a:=⟨a.block,a.off+j,J⟩) (w:=w) (hw.2.2.2.2 _ hne)];exact h3
end
structure FrU (w W:G) (bp bf bv:Nat) (u u':X):Prop where
 os:W.os=w.os
 tape:W.tape=w.tape
 output:W.output=w.output
 size:w.heap.size<=W.heap.size
 block:∀ k,k<w.heap.size->k≠bp->k≠bf->k≠bv->u.ownBlock≠Y k->W.heap[k]? =w.heap[k]?
 own:∀ k,u'.ownBlock=Y k->u.ownBlock=Y k\/w.heap.size<=k
theorem Y2{w:G}{B bp bf bv:Nat}{u:X}{F V:List (List Int)}{U:List (Nat × List Int)}{fu dn:Bool}{le:Int}(h:DskAt w B bp bf bv u F V U fu le dn)(h0:0<=le)(h1:le<=9223372036854775807)(n:Int){v:X}{l:List Int}(hv:BSl w v l)(hy:(0<=n/\n<V.length)/\l.length=256)(hp:mb fu le dn=Ay):
 Av Ae 163 #[Al (Y ⟨bp,0,J⟩),I Ad n,v] w fun e w'=>e=Aj (I Ad 2)/\DskAt w' B bp bf bv u F V U fu (YP fu le dn) (WZ fu le dn)/\Wrote w w' bp:=by
 have KP:=wM (Jm h h0 h1);have KF:=wM (MQ h n hv);rw[hp] at KP;rw[Az hy] at KF;clear h hv hy;go_enter Tryz.func163,Tryz.ntmps163
 go_wp2_with (first
  |(go_at_call 76;refine KF.out.mono ?_;rintro e w' ⟨rfl,rfl⟩)
  |(go_at_call 164;refine KP.out.mono ?_;rintro e w2 ⟨rfl,hd2,hw2⟩))
 go_ret;exact⟨rfl,hd2,hw2⟩
attribute [-go_sem] Instr.build Instr.buildSlice loadCellsFrom
theorem dM{w:G}{B bp bf bv:Nat}{u:X}{F V:List (List Int)}{U:List (Nat × List Int)}{fu dn:Bool}{le:Int}(h:DskAt w B bp bf bv u F V U fu le dn)(h0:0<=le)(h1:le<=9223372036854775807)(hp:mb fu le dn=AE)(n:Nat)(hn:n<V.length){v:X}{l:List Int}(hv:BSl w v l)(hl:l.length=256)(hU:U.length<=1000000):
 Av Ae 163 #[Al (Y ⟨bp,0,J⟩),I Ad n,v] w fun e w'=>e=Aj (I Ad 0)/\∃ u',DskAt w' B bp bf bv u' F (V.set n l) (U ++ [(n,l)]) fu (YP fu le dn) (WZ fu le dn)/\Ap B w w'/\FrU w w' bp bf bv u u':=by
 have KF:=wM (MQ h n hv);have KP:=wM (Jm h h0 h1);rw[hp] at KP;have HOLD:=wM h;have HVOLD:=wM (fun W (hw:Wrote w W bp)=>hv.apartP h hw);generalize YP fu le dn=le' at KP |-
 generalize WZ fu le dn=dn' at KP |-
 have sd:B<=w.heap.size:=by
  have h1:=(Ah.1 h.hp).1;have:=h.bB;omega
 have hd:decide ((0<=(n:Int)/\(n:Int)<V.length)/\l.length=256)=AE:=Az ⟨by omega,hl⟩;have hn':(n:Int)<V.length:=by omega
 have HL:Hid ((cB l).length=256):=by show _=_;rw[CG,hl]
 have HB:Hid (WY l):=⟨hl,hv.1⟩;have HZ:=wM Fj;have hone:∀ v∈zB,v.oneCell'=AE:=fun v hv=>by rw[BS hv];rfl
 have HH:=wM hl;clear hl;go_enter Tryz.func163,Tryz.ntmps163
 go_wp2_with (first
  |(go_at_call 76;refine KF.out.mono ?_;rintro e w' ⟨rfl,rfl⟩;rw[hd])
  |(go_at_call 164;refine KP.out.mono ?_;rintro e w0 ⟨rfl,hd0,hw0⟩
    have HV0:=wM (HVOLD.out _ hw0))
  |(go_at_call 77;refine(MP HV0.out HH.out).mono ?_;rintro e w1 ⟨rfl,hb1⟩)
  |with_reducible refine GF _ rfl rfl ?_
  |(refine FH _ rfl _ _ (by rfl) _ 164 zB (cB l) (by rfl) (by rfl) (Cq _ _) HZ.out HL.out (GV l) ?_
    rw[E3]))
 have HW0:=wM hw0;have HBW:Hid (Ap B w w0):=wM (hw0.below h.bB.1);have sd:B<=w0.heap.size:=AI sd HBW.out.size;clear h hv KF KP HOLD HVOLD hw0;have h:=hd0;have hv:=HV0.out;have hb2:Ap w0.heap.size w0 (w1.alloc (Am (cB l).toArray 164)):=hb1.alloc hb1.size _;obtain⟨H1,WO⟩:=nm w1.heap.size;have hrow:(w1.alloc (Am (cB l).toArray 164)).heap[H1]? =Y (Am (cB l).toArray 164 (0,0)):=by rw[WO];exact Cq _ _
 rw[<- WO];have Un:bp<H1/\bf<H1/\bv<H1:=by
  have h1:=(Ah.1 h.hp).1;have h2:=(Ah.1 h.hf).1;have h3:=(Ah.1 h.hv).1;have:=hb1.size;omega
 have HH1:=wM WO;clear WO;generalize w1.alloc (Am (cB l).toArray 164)=W1 at hb2 hrow |-
 have h1:=h.below hb2;have rL:W1.rangeAt H1 0 (cB l):=Ev hrow (by rw[CP,BP]);have tV:W1.there bv (n*256) (cB l).length:=Fg h1.hv (by rw[HL.out,CM (Er h.okV)];omega);have c1:=h1.c1;have lH:=GV l;have r9:=Tryz.underlying164;have se:(Ae.info? 164).map (·.size)=Y (cB l).length:=by rw[PS,HL.out]
 have hlen:=HL.out;have H:=wM h;have hS1:W1.drew.cell? ⟨bp,1,J⟩=Y (Ak (Y ⟨bv,0,J⟩) V.length V.length)/\W1.drew.rangeAt H1 0 (cB l)/\W1.drew.there bv (n*256) (cB l).length:=⟨c1,rL,tV⟩;have hS2:(W1.drew.setCells bv (n*256) (cB l)).cell? ⟨bp,1,J⟩=Y (Ak (Y ⟨bv,0,J⟩) V.length V.length)/\(W1.drew.setCells bv (n*256) (cB l)).rangeAt H1 0 (cB l)/\(W1.drew.setCells bv (n*256) (cB l)).there bv (n*256) (cB l).length:=
  ⟨by rw[CE _ _ _ _ _ (fun e=>absurd e h.ne.2.1)];exact c1,GY hS1.2.1 _ _ _ (AU (by omega)),G.there_setCells hS1.2.2 _ _ _⟩
 clear h1 hrow h hv
 go_region_held (fun W=>W.cell? ⟨bp,1,J⟩=Y (Ak (Y ⟨bv,0,J⟩) V.length V.length)/\W.rangeAt H1 0 (cB l)/\W.there bv (n*256) (cB l).length) (first|exact hS1|exact hS2) (fail)
 go_wp2_with fail
 obtain⟨h2,hwr⟩:=H.out.setV (W:=W1.drew) (hb2.drew) n hn l HB.out;have Lw:(W1.drew.setCells bv (n*256) (cB l)).rangeAt H1 0 (cB l):=hS2.2.1;have hb3:Ap B w0 (W1.drew.setCells bv (n*256) (cB l)):=((hb2.mono sd).drew).trans (hwr.below H.out.bB.2.2);have NO:H1<(W1.drew.setCells bv (n*256) (cB l)).heap.size:=G.block_lt_of_cell? _ _ (Lw 0 _ (AL (by omega)));have sg:∀ k,k<w0.heap.size->k≠bv->(W1.drew.setCells bv (n*256) (cB l)).heap[k]? =w0.heap[k]? :=fun k hk hne=>(hwr.2.2.2.2 k hne).trans ((hb2.drew).block k hk)
 generalize W1.drew.setCells bv (n*256) (cB l)=W2 at h2 Lw hb3 NO sg |-
 clear hS1 hS2 rL tV c1 hwr hb2;have HFR2:=wM sg;clear sg;have ti:B<=W2.heap.size:=AI sd hb3.size;obtain⟨i,hi1,hi2,gC,lF⟩:=Bf aB;have c2:=h2.c2;have fz:=h2.fr 2;have hbd:=fun W=>Vr W n l HH.out
 have hbs:=fun W=>Vl W (I Ad n :: cB l) (by rw[Bm,HL.out])
 have hown:=h2.hu;have hcu:(I Ad n :: cB l).length=257:=by rw[Bm,HL.out]
 have r_:∀ v∈(I Ad n :: cB l),v.oneCell'=AE:=Yy (n,l);have hS1:W2.drew.rangeAt H1 0 (cB l):=Lw;have hbpH:bp≠H1:=by omega
 have huH:u.ownBlock≠Y H1:=fun e=>by have:=(H.out.hu.lt _ e).2;have:=hb1.size;have:=HH1.out;omega
 have hB2':=wM ti;have pc:(X.agg (I Ad 0 :: zB).toArray).cells.size=257:=by show(I Ad 0 :: zB).toArray.size=257;simp[Fj]
 have hc3:∀ w3,((W2.alloc (Am (I Ad n :: cB l).toArray 168)).drew).grownBy w3 u.ownBlock->w3.cell? ⟨bp,2,J⟩=Y u/\w3.frozen? ⟨bp,2,J⟩=Ay:=fun w3 hg=>by
  have hlt:bp<W2.heap.size:=(Ah.1 h2.hp).1;have WN:bp<((W2.alloc (Am (I Ad n :: cB l).toArray 168)).drew).heap.size:=by simp;omega
  rw[hg.cell_far _ WN (CT h2.une.1),hg.frozen_far _ WN (CT h2.une.1)];exact⟨by rw[G.cell?_drew,C9 _ _ _ hlt];exact c2,by rw[G.frozen?_drew,G.frozen?_alloc_past _ _ _ hlt];exact fz⟩
 have hap:=fun w3 hgrow g cap SG GB=>h2.pushU (W:=(W2.alloc (Am (I Ad n :: cB l).toArray 168)).drew) (w3:=w3) (((AC _ _).alloc (At _) _).drew) ti hgrow g cap (n,l) ⟨by rw[AF];exact hn,HB.out⟩ SG GB
 have hcl:(loadCellsFrom ⟨H1,0,J⟩ 0 256 #[]).run Ae W2.drew=.ok (cB l).toArray W2.drew:=by
  have:=run_loadCells_list (P:=Ae) W2.drew ⟨H1,0,J⟩ (cB l) (fun j v hv=>by rw[Addr.add_mid];exact hS1 j v hv);rw[HL.out] at this;exact this
 have hltbp:bp<W2.heap.size:=(Ah.1 h2.hp).1;clear r9 se hlen
 go_region_law
  ((refine step_append_lies _ (by rfl) _ _ _ (by rfl) B 168 i _ 257 264 Tryz.underlying141 hi1 hi2 gC lF pc (by omega) u U.length (U.flatMap cU) (by rfl) ((hown.alloc _).drew)
     ⟨W2.heap.size,0,J⟩ 1 1 (I Ad n :: cB l) (by rfl) hcu (G.news_of_block (cs:=(I Ad n :: cB l).toArray) (t:=168) (fr:=(0,0)) (Ar W2 _)) r_
     (by omega) (by simp only[maxLen];omega) (by omega) (AI ti (by simp)) (W2.heap.size+1) (by simp) ?_;intro gg cap w3 SG hgrow GB hlt;obtain⟨c3,f3⟩:=hc3 w3 hgrow))
 all_goals
  obtain⟨bi,hb4⟩:=hap w3 hgrow gg cap SG (by simpa using GB);clear hap hc3;go_wp2_with fail
  go_ret;have hbA:=(HBW.out.trans hb3).trans hb4;refine⟨rfl,_,bi,hbA,hbA.os,hbA.tape,hbA.output,hbA.size,fun k hk k1 k2 k3 k4=>?_,fun k hk=>?_⟩
  . have e0:k<w0.heap.size:=AA hk HBW.out.size
    have e1:k<W2.heap.size:=AA e0 hb3.size;have e2:k<((W2.alloc (Am (I Ad n :: cB l).toArray 168)).drew).heap.size:=(by simp;omega);rw[AN _ _ _ _ k1,hgrow.block k e2 (CT k4)];exact(((AC W2.heap.size W2).alloc (At _) _).block k e1).trans ((HFR2.out k e0 k3).trans (HW0.out.2.2.2.2 k k1))
  . obtain rfl:gg=k:=by simpa [X.ownBlock] using hk
    rcases GB with GB|GB
    . exact AU GB
    . right
      have:=hb3.size;have:=HBW.out.size;omega
end
section
open Go.RowKit
def BBSl(w:G)(v:X)(L:List (List Int)):Prop:=
 (v=Ak J 0 0/\L=[])\/∃ a cap,v=Ak (Y a) L.length cap/\L.length<=cap/\∀ j,j<L.length->a.block<w.heap.size/\a.spot=J/\
   ∃ u,w.cell? ⟨a.block,a.off+j,J⟩=Y u/\BSl w u (L.getD j [])
theorem BBSl.keep{w w':G}{v:X}{L:List (List Int)}(h:BBSl w v L)(hs:w.heap.size<=w'.heap.size)(hb:∀ p:Addr,p.block<w.heap.size->w'.cell? p=w.cell? p):BBSl w' v L:=by
 rcases h with h| ⟨a,cap,hv,Cx,hc⟩
 . exact AU h
 . refine AW ⟨a,cap,hv,Cx,fun j hj=>?_⟩
   obtain⟨h1,h2,u,h3,h4⟩:=hc j hj;exact⟨AA h1 hs,h2,u,by rw[hb _ (by exact h1),h3],h4.keep hs hb⟩
theorem BBSl.below{w w':G}{v:X}{L:List (List Int)}(h:BBSl w v L)(hb:Ap w.heap.size w w'):BBSl w' v L:=
 h.keep hb.size fun _ hp=>hb.cell hp
theorem BBSl.open'{w:G}{v:X}{L:List (List Int)}(h:BBSl w v L):∃ ao cap,v=Ak ao L.length cap/\L.length<=cap/\(0<L.length->∃ b off,ao=Y ⟨b,off,J⟩/\b<w.heap.size/\
 ∀ j,j<L.length->∃ u,w.cell? ⟨b,off+j,J⟩=Y u/\BSl w u (L.getD j [])):=by
 rcases h with⟨hv,hk⟩| ⟨⟨b,off,spot⟩,cap,hv,Cx,hc⟩
 . exact⟨J,0,by rw[hv,hk];rfl,by rw[hk];exact At _,fun h=>by rw[hk] at h;simp at h⟩
 . refine⟨_,cap,hv,Cx,fun h0=>?_⟩
   obtain⟨h1,h2,_⟩:=hc 0 h0;obtain rfl:spot=J:=h2;exact⟨b,off,rfl,h1,fun j hj=>(hc j hj).2.2⟩
theorem BBSl.shape{w:G}{v:X}{L:List (List Int)}(h:BBSl w v L):∃ ao cap,v=Ak ao L.length cap/\L.length<=cap:=by
 obtain⟨ao,cap,hv,hc,_⟩:=h.open';exact⟨ao,cap,hv,hc⟩
theorem BSl.one{w:G}{v:X}{l:List Int}(h:BSl w v l):v.oneCell'=AE:=by
 obtain⟨ao,cap,rfl,_⟩:=h.shape;rfl
def BElt(w:G)(B:Nat)(x:X)(l:List Int):Prop:=
 BSl w x l/\(0<l.length->∃ b off cap,x=Ak (Y ⟨b,off,J⟩) l.length cap/\b<w.heap.size/\(b<B\/∃ cur,w.heap[b]? =Y (Am cur 5 (0,0))))
theorem BElt.grown{w w':G}{B:Nat}{x:X}{l:List Int}(h:BElt w B x l){row:Option Nat}(hrow:∀ g,row=Y g->B<=g/\∃ cur,w.heap[g]? =Y (Am cur 77 (0,0)))(hg:w.grownBy w' row):BElt w' B x l:=by
 by_cases h0:0<l.length
 . obtain⟨b,off,cap,rfl,hb,hor⟩:=h.2 h0
   have hne:Y b≠row:=fun e=>by
    obtain⟨h1,cur,h2⟩:=hrow b e.symm;rcases hor with h3| ⟨cur',h3⟩
    . omega
    . rw[h3] at h2
      injection h2 with h2
      injection h2 with _ h4
      exact absurd h4 (by decide)
   have mg:=hg.block b hb hne;refine⟨⟨h.1.1,?_⟩,fun _=>⟨b,off,cap,rfl,AA hb hg.size,hor.elim AU fun⟨cur,hc⟩=>AW ⟨cur,by rw[mg];exact hc⟩⟩⟩;rcases h.1.2 with⟨hv,_⟩| ⟨a,cap',hv,Cx,hc⟩
   . simp at hv
   . obtain⟨rfl,rfl⟩:a=⟨b,off,J⟩/\cap=cap':=⟨(A0 (AY hv).1).symm,(AY hv).2.2⟩
     refine AW ⟨_,cap,rfl,Cx,fun j hj=>?_⟩;obtain⟨h1,h2,h3⟩:=hc j hj;exact⟨AA h1 hg.size,rfl,by rw[A5 (a:=⟨b,off+j,J⟩) mg];exact h3⟩
 . obtain rfl:l=[]:=AO (by omega)
   refine⟨⟨EY,?_⟩,fun h=>absurd h h0⟩;rcases h.1.2 with h| ⟨a,cap,hv,Cx,_⟩
   . exact AU h
   . exact AW ⟨a,cap,hv,Cx,fun j hj=>absurd hj (A9 _)⟩
theorem Pu{w w':G}(h:Ap w.heap.size w w'):w.grownBy w' J:=⟨h.os,h.tape,h.output,h.size,fun k hk _=>h.block k hk⟩
theorem BElt.below{w w':G}{B:Nat}{x:X}{l:List Int}(h:BElt w B x l)(hb:Ap w.heap.size w w'):BElt w' B x l:=
 h.grown (row:=J) (fun g e=>by cases e) (Pu hb)
theorem OB.elt{w:G}{B B':Nat}{x:X}{l:List Int}(h:OB w B' x l):BElt w B x l:=by
 refine⟨h.bsl,fun h0=>?_⟩;rcases h.2.2 with⟨_,hl⟩| ⟨g,cap,cur,hv,_,hh,_⟩
 . omega
 . exact⟨g,0,cap,hv,(Ah.1 hh).1,AW ⟨cur,hh⟩⟩
def BBE(w:G)(B:Nat)(v:X)(L:List (List Int)):Prop:=
 (v=Ak J 0 0/\L=[])\/∃ a cap,v=Ak (Y a) L.length cap/\L.length<=cap/\∀ j,j<L.length->a.block<w.heap.size/\a.spot=J/\
   ∃ u,w.cell? ⟨a.block,a.off+j,J⟩=Y u/\BElt w B u (L.getD j [])
theorem BBE.below{w w':G}{B:Nat}{v:X}{L:List (List Int)}(h:BBE w B v L)(hb:Ap w.heap.size w w'):BBE w' B v L:=by
 rcases h with h| ⟨a,cap,hv,Cx,hc⟩
 . exact AU h
 . refine AW ⟨a,cap,hv,Cx,fun j hj=>?_⟩
   obtain⟨h1,h2,u,h3,h4⟩:=hc j hj;exact⟨AA h1 hb.size,h2,u,by rw[hb.cell (p:=⟨a.block,a.off+j,J⟩) h1,h3],h4.below hb⟩
theorem BBE.sl{w:G}{B:Nat}{v:X}{L:List (List Int)}(h:BBE w B v L):BBSl w v L:=by
 rcases h with h| ⟨a,cap,hv,Cx,hc⟩
 . exact AU h
 . refine AW ⟨a,cap,hv,Cx,fun j hj=>?_⟩
   obtain⟨h1,h2,u,h3,h4⟩:=hc j hj;exact⟨h1,h2,u,h3,h4.1⟩
def BBR(w:G)(B:Nat)(v:X)(L:List (List Int)):Prop:=
 ∃ vs:List X,vs.length=L.length/\(∀ j,j<L.length->BElt w B (vs.getD j undef) (L.getD j []))/\w.ownsRow B 77 1 v L.length vs
theorem BBR.be{w:G}{B:Nat}{v:X}{L:List (List Int)}(h:BBR w B v L):BBE w B v L:=by
 obtain⟨vs,hl,hr,ho⟩:=h;rcases ho.2 with⟨hv,qr⟩| ⟨g,cap,cur,hv,hg,hh,Ii,Jq,Jr,ht⟩
 . exact AU ⟨hv,AO qr⟩
 . refine AW ⟨_,cap,hv,Ii,fun j hj=>⟨(Ah.1 hh).1,rfl,vs.getD j undef,?_,hr j hj⟩⟩
   show w.cell? ⟨g,0+j,J⟩=_
   rw[Br,Aq _ _ _ _ _ _ hh];have:(cur.toList.take (L.length*1))[j]? =vs[j]? :=(by rw[ht]);rw[AZ,Au (by omega)] at this
   simpa [show j<vs.length by omega] using this
theorem BBR.sl{w:G}{B:Nat}{v:X}{L:List (List Int)}(h:BBR w B v L):BBSl w v L:=h.be.sl
theorem BBR.below{w w':G}{B:Nat}{v:X}{L:List (List Int)}(h:BBR w B v L)(hb:Ap w.heap.size w w'):BBR w' B v L:=by
 obtain⟨vs,hl,hr,ho⟩:=h;refine⟨vs,hl,fun j hj=>(hr j hj).below hb,ho.1,?_⟩;rcases ho.2 with h| ⟨g,cap,cur,hv,hg,hh,r⟩
 . exact AU h
 . exact AW ⟨g,cap,cur,hv,hg,by rw[hb.block g (Ah.1 hh).1];exact hh,r⟩
theorem QE:(Ae.info? 77).map (fun i=>(i.zero,i.size,i.bytes))=Y (Y (Ak J 0 0),1,24):=by kernel_rfl
theorem nX{w1:G}{B:Nat}{x:X}{l:List Int}(hx:BElt w1 B x l)(hB:B<=w1.heap.size):
 BBR (w1.alloc (Am #[x] 77)) B (Ak (Y ⟨w1.heap.size,0,J⟩) 1 1) [l]:=by
 refine⟨[x],rfl,fun j hj=>?_,rfl,AW ⟨w1.heap.size,1,#[x],rfl,hB,Ar w1 _,At _,by decide,rfl,rfl⟩⟩;obtain rfl:j=0:=by simpa using hj
 exact hx.below (As _ _)
def BB2(w:G)(B E:Nat)(v:X)(L:List (List Int)):Prop:=
 ∃ vs:List X,vs.length=L.length/\(∀ j,j<L.length->BElt w E (vs.getD j undef) (L.getD j []))/\w.ownsRow B 77 1 v L.length vs
theorem BB2.lower{w:G}{B B' E:Nat}{v:X}{L:List (List Int)}(h:BB2 w B E v L)(hB:B'<=B):BB2 w B' E v L:=by
 obtain⟨vs,hl,hr,ho⟩:=h;exact⟨vs,hl,hr,ho.1,ho.2.imp id fun⟨g,cap,cur,hv,hg,r⟩=>⟨g,cap,cur,hv,AI hB hg,r⟩⟩
theorem BB2.bbr{w:G}{B:Nat}{v:X}{L:List (List Int)}(h:BB2 w B B v L):BBR w B v L:=h
theorem BBR.bb2{w:G}{B:Nat}{v:X}{L:List (List Int)}(h:BBR w B v L):BB2 w B B v L:=h
theorem BB2.zero{w:G}{B:Nat}{v:X}{L:List (List Int)}(h:BB2 w B 0 v L):BBR w 0 v L:=h.lower (AT _)
theorem BB2.below{w w':G}{B E:Nat}{v:X}{L:List (List Int)}(h:BB2 w B E v L)(hb:Ap w.heap.size w w'):BB2 w' B E v L:=by
 obtain⟨vs,hl,hr,ho⟩:=h;refine⟨vs,hl,fun j hj=>(hr j hj).below hb,ho.1,?_⟩;rcases ho.2 with h| ⟨g,cap,cur,hv,hg,hh,r⟩
 . exact AU h
 . exact AW ⟨g,cap,cur,hv,hg,by rw[hb.block g (Ah.1 hh).1];exact hh,r⟩
theorem TU{w1:G}{B E:Nat}{x:X}{l:List Int}(hx:BElt w1 E x l)(hB:B<=w1.heap.size):
 BB2 (w1.alloc (Am #[x] 77)) B E (Ak (Y ⟨w1.heap.size,0,J⟩) 1 1) [l]:=by
 refine⟨[x],rfl,fun j hj=>?_,rfl,AW ⟨w1.heap.size,1,#[x],rfl,hB,Ar w1 _,At _,by decide,rfl,rfl⟩⟩;obtain rfl:j=0:=by simpa using hj
 exact hx.below (As _ _)
theorem Hu(S:Cg)(hS:Ae.underlying S=Y (.slice 77))(w:G)(B E:Nat)(qs:E<=B)(ty:Cg)(v:X)(L:List (List Int))(hown:BB2 w B E v L)(u:X)(M:List (List Int))(hr:BBE w E u M)
 (hlen:L.length+M.length<=1000000) (hB:B<=w.heap.size):
 ∃ v' w',(Builtin.append_ #[S,S] ty #[v,u]).run Ae w=.ok v' w'/\BB2 w' B E v' (L ++ M)/\Ap B w w'/\w.grownBy w' v.ownBlock:=by
 obtain⟨t,h2,h3,h4,h5⟩:=Bf QE;obtain⟨vs,uq,hve,ho⟩:=hown;rcases hr with⟨rfl,rfl⟩| ⟨⟨b,off,spot⟩,cap,rfl,Cx,hc⟩
 . have CX:=run_append_owned_none (P:=Ae) (w:=w) B S ty 77 t 1 hS h2 v L.length vs ho
   exact⟨v,w,CX,by rw[BW];exact⟨vs,uq,hve,ho⟩,AC _ _,G.grownBy.refl w _⟩
 . have hex:∀ j,j<M.length->∃ x,w.cell? ⟨b,off+j,J⟩=Y x/\BElt w E x (M.getD j []):=fun j hj=>(hc j hj).2.2
   obtain⟨f,hf⟩:∃ f:Nat->X,∀ j,j<M.length->w.cell? ⟨b,off+j,J⟩=Y (f j)/\BElt w E (f j) (M.getD j []):=by
    refine⟨fun j=>if hj:j<M.length then (hex j hj).choose else undef,fun j hj=>?_⟩;simp only[hj,dif_pos];exact(hex j hj).choose_spec
   have ZI:0<M.length->spot=J:=fun h0=>(hc 0 h0).2.1
   have Dc:∀ j x,((Bu M.length).map f)[j]? =Y x->w.cell? (Addr.add ⟨b,off,spot⟩ j)=Y x:=fun j x hj=>by
    have MV:j<M.length:=by simpa using (Bb.1 hj).1
    obtain rfl:=ZI (by omega);rw[BY,(hf j MV).1,<- hj];simp[MV]
   obtain⟨v',w',CX,h6,h7,_⟩:=run_append_own (P:=Ae) w B S ty 77 t _ 1 24 hS h2 h3 h4 h5 rfl (by decide) v L.length vs ho ⟨b,off,spot⟩ M.length cap ((Bu M.length).map f) (by simp) Dc (fun x hx=>by
    obtain⟨j,hj,rfl⟩:=BZ.1 hx;exact(hf j (Bd.1 hj)).2.1.one) (by simp only[maxLen];omega) (by omega) hB
   have hrow:∀ g,v.ownBlock=Y g->E<=g/\∃ cur,w.heap[g]? =Y (Am cur 77 (0,0)):=fun g hg=>by
    rcases ho.2 with⟨rfl,_⟩| ⟨g',cap',cur,rfl,hg',hh,_⟩
    . simp[X.ownBlock] at hg
    . obtain rfl:g'=g:=by simpa [X.ownBlock] using hg
      exact⟨AI qs hg',cur,hh⟩
   refine⟨v',w',CX,⟨vs ++ (Bu M.length).map f,by simp[uq],fun j hj=>?_,by rw[AD];exact h6⟩,(AC _ _).grown h7 hB fun k hk=>(BO ho k hk).1,h7⟩;rw[AD] at hj;by_cases e:j<L.length
   . have:=(hve j e).grown hrow h7
     rw[An,An,BH (by omega),BH e,<- An,<- An];exact this
   . have hjm:j-L.length<M.length:=by omega
     have:=(hf (j-L.length) hjm).2.grown hrow h7;rw[An,An,BR (by omega),BR (by omega),uq];rw[An] at this
     simpa [hjm] using this
theorem MJ(S:Cg)(hS:Ae.underlying S=Y (.slice 77))(w:G){ops:Array BE}{rest:List BE}{o:BE}{a:Act}{Q:Exit->Act->G->Prop}(Du:o.guard=J)(s y:Operand)
 (ho:o.op=.call { callee:=.builtin .append,args:=#[s,y],argTypes:=#[S,S] })
 (B E:Nat) (qs:E<=B) (v:X) (L:List (List Int)) (hs:a.eval s=v) (hown:BB2 w B E v L) (u:X) (M:List (List Int)) (hy:a.eval y=u) (hr:BBE w E u M)
 (hlen:L.length+M.length<=1000000) (hB:B<=w.heap.size)
 (h:∀ v' w',BB2 w' B E v' (L ++ M)->Ap B w w'->Cf Ae ops Q rest (a.put o.dst v') w'):Cf Ae ops Q (o :: rest) a w:=by
 obtain⟨v',w',hr,h2,h3,_⟩:=Hu S hS w B E qs o.type v L hown u M hr hlen hB;refine CA Du fun K hK=>?_
 unfold BE.wp execOp;simp only[ho,resolve,invoke,builtin,Dg,Sem.run_pure,Result.andThen_ok,Fc,DO,IJ,hs,hy,hr];exact hK _ _ (h v' w' h2 h3)
theorem GI(S:Cg)(hS:Ae.underlying S=Y (.slice 77))(w1:G)(x:X)(l:List Int){ops:Array BE}{rest:List BE}{o:BE}{a:Act}{Q:Exit->Act->G->Prop}(Du:o.guard=J)(s y:Operand)
 (ho:o.op=.call { callee:=.builtin .append,args:=#[s,y],argTypes:=#[S,S] })
 (B E:Nat) (qs:E<=B) (v:X) (L:List (List Int)) (hs:a.eval s=v) (hown:BB2 w1 B E v L) (hx:BElt w1 E x l) (q:Nat) (hy:a.eval y=Ak (Y ⟨q,0,J⟩) 1 1) (hq:q=w1.heap.size) (hlen:L.length<=100000) (hB:B<=w1.heap.size)
 (h:∀ v' w',BB2 w' B E v' (L ++ [l])->Ap B w1 w'->Cf Ae ops Q rest (a.put o.dst v') w'):Cf Ae ops Q (o :: rest) a (w1.alloc (Am #[x] 77)):=by
 subst hq;have hbel:Ap w1.heap.size w1 (w1.alloc (Am #[x] 77)):=As _ _;have h1:BBE (w1.alloc (Am #[x] 77)) E (Ak (Y ⟨w1.heap.size,0,J⟩) 1 1) [l]:=(nX hx (B:=E) (AI qs hB)).be;refine MJ S hS _ Du s y ho B E qs v L hs (hown.below hbel) _ [l] hy h1 (by simp;omega) (by simp;omega) fun v' w' h1 h2=>?_
 exact h v' w' h1 ((hbel.mono hB).trans h2)
def ISl(w:G)(v:X)(l:List Int):Prop:=
 (v=Ak J 0 0/\l=[])\/∃ a cap,v=Ak (Y a) l.length cap/\∀ j,j<l.length->a.block<w.heap.size/\a.spot=J/\w.cell? ⟨a.block,a.off+j,J⟩=Y (I Ad (l.getD j 0))
theorem ISl.below{w w':G}{v:X}{l:List Int}(h:ISl w v l)(hb:Ap w.heap.size w w'):ISl w' v l:=by
 rcases h with h| ⟨a,cap,hv,hc⟩
 . exact AU h
 . refine AW ⟨a,cap,hv,fun j hj=>?_⟩
   obtain⟨h1,h2,h3⟩:=hc j hj;exact⟨AA h1 hb.size,h2,by rw[hb.cell (p:=⟨a.block,a.off+j,J⟩) h1,h3]⟩
theorem ISl.open'{w:G}{v:X}{l:List Int}(h:ISl w v l):∃ ao cap,v=Ak ao l.length cap/\(0<l.length->∃ b off,ao=Y ⟨b,off,J⟩/\b<w.heap.size/\
 ∀ j,j<l.length->w.cell? ⟨b,off+j,J⟩=Y (I Ad (l.getD j 0))):=by
 rcases h with⟨hv,hk⟩| ⟨⟨b,off,spot⟩,cap,hv,hc⟩
 . exact⟨J,0,by rw[hv,hk];rfl,fun h=>by rw[hk] at h;simp at h⟩
 . refine⟨_,cap,hv,fun h0=>?_⟩
   obtain⟨h1,h2,_⟩:=hc 0 h0;obtain rfl:spot=J:=h2;exact⟨b,off,rfl,h1,fun j hj=>(hc j hj).2.2⟩
theorem ISl.shape{w:G}{v:X}{l:List Int}(h:ISl w v l):∃ ao cap,v=Ak ao l.length cap:=by
 obtain⟨ao,cap,hv,_⟩:=h.open';exact⟨ao,cap,hv⟩
def iC(l:List Int):List X:=l.map (I Ad)
theorem Cz(l:List Int):(iC l).length=l.length:=Ba _
theorem Qy(l:List Int):∀ v∈iC l,v.oneCell'=AE:=fun v hv=>by
 obtain⟨x,_,rfl⟩:=BZ.1 hv;rfl
def iO(l:List Int)(T:Cg):Obj:=Am (iC l).toArray T (0,0)
theorem Gp{W:G}{g:Nat}{l:List Int}{T:Cg}(h:W.heap[g]? =Y (iO l T))(k:Nat)(hk:k<l.length):W.cell? ⟨g,k,J⟩=Y (I Ad (l.getD k 0)):=by
 rw[Aq _ _ _ _ _ _ h];simp[iC,hk]
theorem OR{W:G}{g:Nat}{l:List Int}{T:Cg}(h:W.heap[g]? =Y (iO l T))(k:Nat):W.frozen? ⟨g,k,J⟩=Ay:=by
 simp[G.frozen?,h,iO]
theorem Tm{W:G}{g:Nat}{l:List Int}{T:Cg}(h:W.heap[g]? =Y (iO l T))(j:Nat)(y:Int):(W.setCell ⟨g,j,J⟩ (I Ad y)).heap[g]? =Y (iO (l.set j y) T):=by
 rw[A8 W g j _ _ _ h];simp[iO,iC]
theorem Gn{W:G}{g:Nat}{l:List Int}{T:Cg}(h:W.heap[g]? =Y (iO l T)):W.rangeAt g 0 (iC l):=
 Ev h (by rw[CP,BP])
def IR(w:G)(B:Nat)(v:X)(l:List Int):Prop:=w.ownsRow B 3 1 v l.length (iC l)
theorem IR.sl{w:G}{B:Nat}{v:X}{l:List Int}(h:IR w B v l):ISl w v l:=by
 rcases h.2 with⟨hv,hl⟩| ⟨g,cap,cur,hv,hg,hh,Ii,Jq,Jr,ht⟩
 . exact AU ⟨hv,AO hl⟩
 . refine AW ⟨_,cap,hv,fun j hj=>⟨(Ah.1 hh).1,rfl,?_⟩⟩
   show w.cell? ⟨g,0+j,J⟩=_
   rw[Br,Aq _ _ _ _ _ _ hh];have:(cur.toList.take (l.length*1))[j]? =(iC l)[j]? :=(by rw[ht]);rw[AZ,Au (by omega)] at this
   simpa [iC,hj] using this
theorem IR.below{w w':G}{B:Nat}{v:X}{l:List Int}(h:IR w B v l)(hb:Ap w.heap.size w w'):IR w' B v l:=by
 refine⟨h.1,?_⟩;rcases h.2 with h| ⟨g,cap,cur,hv,hg,hh,r⟩
 . exact AU h
 . exact AW ⟨g,cap,cur,hv,hg,by rw[hb.block g (Ah.1 hh).1];exact hh,r⟩
theorem IR.of_row{w:G}{B g:Nat}{l:List Int}(hB:B<=g)(hg:w.heap[g]? =Y (iO l 3))(hm:l.length<=maxLen):
 IR w B (Ak (Y ⟨g,0,J⟩) l.length l.length) l:=by
 refine⟨by simp[iC],AW ⟨g,l.length,_,rfl,hB,hg,At _,hm,by simp[iC],?_⟩⟩;rw[AR (by simp[iC])]
theorem TH:(Ae.info? 3).map (fun i=>(i.zero,i.size,i.bytes))=Y (Y (I Ad 0),1,8):=by kernel_rfl
theorem WH(n:Nat):madeCells (I Ad 0).cells n=(iC (Aw n 0)).toArray:=by
 apply Array.ext';rw[show(I Ad 0).cells=#[I Ad 0] from rfl,toList_madeCells_one];simp[iC]
theorem JA(w:G){ops:Array BE}{rest:List BE}{o:BE}{a:Act}{Q:Exit->Act->G->Prop}
 (hg:o.guard=J) (l c:Operand) (JF:o.op=Op.makeSlice 179 l c) (C:Int) (n:Nat) (hl:a.eval l=I Ad C) (hc:a.eval c=I Ad C) (hC:C=n) (hn:n<=1000000)
 (hK:Cf Ae ops Q rest (a.put o.dst (Ak (Y ⟨w.heap.size,0,J⟩) n n)) (w.alloc (iO (Aw n 0) 3))):
 Cf Ae ops Q (o :: rest) a w:=by
 refine CA hg fun K hK'=>?_
 obtain⟨i,h2,h3,h4,h5⟩:=Bf TH;subst hC;have CX:=run_make (P:=Ae) w 179 3 i (I Ad 0) Tryz.underlying179 h2 h3 Ad Ad n n (by omega) (by omega) (by rw[h5];omega) (by omega);unfold BE.wp;simp only[Cd,h4,Nat.mul_one,WH] at CX;simp[execOp,JF,hl,hc,CX,Result.andThen];exact hK' _ _ hK
section
variable {α:Type}{f:α->List X}{s:Nat}
theorem QO{w:G}{g k:Nat}{t:Cg}{L:List α}(hg:w.heap[g]? =Y (Am (L.flatMap f).toArray t (0,0)))(hf:∀ x∈L,(f x).length=s)(hk:k<L.length):w.rangeAt g (k*s) (f L[k]):=by
 refine Ev hg ?_;rw[hf _ (Be hk)];exact Gb hf k hk
theorem EX{ops:Array BE}{rest:List BE}{op:BE}{a:Act}{w:G}{Q:Exit->Act->G->Prop}(Du:op.guard=J)(T:Cg)(x y:Operand)(ho:op.op=.store T x y)
 (hs:(Ae.info? T).map (·.size)=Y s) (g k:Nat) (L:List α) (z:α) (t:Cg) (hx:a.eval x=Al (Y ⟨g,k*s,J⟩)) (hy:a.eval y=BN (f z).toArray)
 (hg:w.heap[g]? =Y (Am (L.flatMap f).toArray t (0,0))) (hk:k<L.length) (hf:∀ x∈L,(f x).length=s) (hz:(f z).length=s) (h1:∀ v∈f z,v.oneCell'=AE)
 (h:∀ w',Wrote w w' g->w'.heap[g]? =Y (Am ((L.set k z).flatMap f).toArray t (0,0))->Cf Ae ops Q rest (a.put op.dst undef) w'):Cf Ae ops Q (op :: rest) a w:=by
 have Lo:k*s+s<=L.length*s:=by
  have:=Nat.mul_le_mul_right s (show k+1<=L.length from hk);rw[Nat.succ_mul] at this;omega
 have hl:k*s+(f z).length<=(L.flatMap f).length:=by rw[CM hf,hz];exact Lo
 refine wpList_store_mid Du T x y ho g (k*s) (f z).toArray hx hy (Fg hg (by simpa using hl)) (by rw[hs];simp[hz]) (Gt h1) ?_;have e:=Fk hg hl h1;rw[show(f z).toArray.toList=f z from rfl,e];refine h _ (Wrote.setRow _ _ _) ?_;rw[CC _ _ _ _ _ _ hg,I7 hf k hk z hz]
end
theorem Bw{ops:Array BE}{rest:List BE}{op:BE}{a:Act}{w:G}{Q:Exit->Act->G->Prop}(Du:op.guard=J)(T:Cg)(x:Operand)(ho:op.op=.load T x)
 (b o:Nat) (hx:a.eval x=Al (Y ⟨b,o,J⟩)) (l:List Int) (d:TypeDesc) (hc:w.rangeAt b o (iC l))
 (hu:Ae.underlying T=Y d) (hd:d.isRow=AE) (hi:(Ae.info? T).map (·.size)=Y l.length)
 (h:Cf Ae ops Q rest (a.put op.dst (BN (iC l).toArray)) w):Cf Ae ops Q (op :: rest) a w:=
 wpList_load_mid Du T x ho b o hx (iC l) d hc hu hd (by rw[hi,Cz]) h
theorem NN{w w':G}{b o:Nat}{cs:List X}(h:w.rangeAt b o cs)(hb:Ap w.heap.size w w')(hl:b<w.heap.size):w'.rangeAt b o cs:=fun j v hv=>by
 rw[hb.cell (p:=⟨b,o+j,J⟩) hl];exact h j v hv
def KeptG(w w':G)(g:Nat):Prop:=w'.os=w.os/\w'.tape=w.tape/\w'.output=w.output/\w.heap.size<=w'.heap.size/\∀ k,k<w.heap.size->k≠g->w'.heap[k]? =w.heap[k]?
theorem KeptG.refl(w:G)(g:Nat):KeptG w w g:=⟨rfl,rfl,rfl,At _,fun _ _ _=>rfl⟩
theorem KeptG.then{w w' w'':G}{g:Nat}(h:KeptG w w' g)(hb:Ap w'.heap.size w' w''):KeptG w w'' g:=
 ⟨hb.os.trans h.1,hb.tape.trans h.2.1,hb.output.trans h.2.2.1,AI h.2.2.2.1 hb.size,fun k hk hne=>by rw[hb.block k (AA hk h.2.2.2.1)];exact h.2.2.2.2 k hk hne⟩
theorem KeptG.wrote{w w' w'':G}{g:Nat}(h:KeptG w w' g)(hb:Wrote w' w'' g):KeptG w w'' g:=
 ⟨hb.1.trans h.1,hb.2.1.trans h.2.1,hb.2.2.1.trans h.2.2.1,by rw[hb.2.2.2.1];exact h.2.2.2.1,fun k hk hne=>by rw[hb.2.2.2.2 k hne];exact h.2.2.2.2 k hk hne⟩
theorem KeptG.below{w w':G}{g B:Nat}(h:KeptG w w' g)(hB:B<=g)(hw:B<=w.heap.size):Ap B w w':=
 ⟨h.1,h.2.1,h.2.2.1,h.2.2.2.1,fun k hk=>h.2.2.2.2 k (AA hk hw) (by omega)⟩
structure Chg (P P':Nat->Prop) (w w':G):Prop where
 os:w'.os=w.os
 tape:w'.tape=w.tape
 output:w'.output=w.output
 size:w.heap.size<=w'.heap.size
 keep:∀ k,k<w.heap.size->¬ P k->w'.heap[k]? =w.heap[k]? /\¬ P' k
theorem Chg.refl(P:Nat->Prop)(w:G):Chg P P w w:=⟨rfl,rfl,rfl,At _,fun _ _ h=>⟨rfl,h⟩⟩
theorem Chg.trans{P P' P'':Nat->Prop}{a b c:G}(h:Chg P P' a b)(k:Chg P' P'' b c):Chg P P'' a c:=
 ⟨k.os.trans h.os,k.tape.trans h.tape,k.output.trans h.output,AI h.size k.size,fun i hi hn=>by
   obtain⟨h1,h2⟩:=h.keep i hi hn;obtain⟨h3,h4⟩:=k.keep i (AA hi h.size) h2;exact⟨h3.trans h1,h4⟩⟩
theorem Chg.of_below{P:Nat->Prop}{w w':G}(h:Ap w.heap.size w w'):Chg P P w w':=⟨h.os,h.tape,h.output,h.size,fun k hk hn=>⟨h.block k hk,hn⟩⟩
theorem Chg.below{P P':Nat->Prop}{w w':G}(h:Chg P P' w w'){B:Nat}(hB:∀ k,k<B->k<w.heap.size/\¬ P k):Ap B w w':=
 ⟨h.os,h.tape,h.output,h.size,fun k hk=>(h.keep k (hB k hk).1 (hB k hk).2).1⟩
def Apt(P:Nat->Prop)(v:X):Prop:=∀ ad n cap,v=Ak (Y ad) n cap->0<n->¬ P ad.block
theorem Apt.nil(P:Nat->Prop):Apt P (Ak J 0 0):=fun ad n cap h=>by cases h
theorem Apt.new{P:Nat->Prop}{g off n cap:Nat}(h:¬ P g):Apt P (Ak (Y ⟨g,off,J⟩) n cap):=fun ad n' cap' e _=>by
 obtain rfl:=A0 (AY e).1;exact h
theorem BSl.chg{P P':Nat->Prop}{w w':G}{v:X}{l:List Int}(h:BSl w v l)(ha:Apt P v)(hc:Chg P P' w w'):BSl w' v l/\Apt P' v:=by
 rcases h.2 with⟨hv,hl⟩| ⟨a,cap,hv,Cx,Dc⟩
 . exact⟨⟨h.1,AU ⟨hv,hl⟩⟩,by rw[hv];exact Apt.nil _⟩
 . refine⟨⟨h.1,AW ⟨a,cap,hv,Cx,fun j hj=>?_⟩⟩,fun ad n cap' e hn=>?_⟩
   . obtain⟨h1,h2,h3⟩:=Dc j hj
     have hk:=hc.keep a.block h1 (ha _ _ _ hv (by omega));exact⟨AA h1 hc.size,h2,by rw[A5 (a:=⟨a.block,a.off+j,J⟩) (w:=w) hk.1];exact h3⟩
   . obtain⟨rfl,rfl⟩:ad=a/\n=l.length:=by
      rw[hv] at e;exact⟨(A0 (AY e).1).symm,(AY e).2.1.symm⟩
     exact(hc.keep ad.block (Dc 0 hn).1 (ha _ _ _ hv hn)).2
theorem ISl.chg{P P':Nat->Prop}{w w':G}{v:X}{l:List Int}(h:ISl w v l)(ha:Apt P v)(hc:Chg P P' w w'):ISl w' v l/\Apt P' v:=by
 rcases h with⟨hv,hl⟩| ⟨a,cap,hv,Dc⟩
 . exact⟨AU ⟨hv,hl⟩,by rw[hv];exact Apt.nil _⟩
 . refine⟨AW ⟨a,cap,hv,fun j hj=>?_⟩,fun ad n cap' e hn=>?_⟩
   . obtain⟨h1,h2,h3⟩:=Dc j hj
     have hk:=hc.keep a.block h1 (ha _ _ _ hv (by omega));exact⟨AA h1 hc.size,h2,by rw[A5 (a:=⟨a.block,a.off+j,J⟩) (w:=w) hk.1];exact h3⟩
   . obtain⟨rfl,rfl⟩:ad=a/\n=l.length:=by
      rw[hv] at e;exact⟨(A0 (AY e).1).symm,(AY e).2.1.symm⟩
     exact(hc.keep ad.block (Dc 0 hn).1 (ha _ _ _ hv hn)).2
def BBa(w:G)(P:Nat->Prop)(v:X)(L:List (List Int)):Prop:=
 (v=Ak J 0 0/\L=[])\/∃ a cap,v=Ak (Y a) L.length cap/\L.length<=cap/\∀ j,j<L.length->(a.block<w.heap.size/\¬ P a.block)/\a.spot=J/\
   ∃ u,w.cell? ⟨a.block,a.off+j,J⟩=Y u/\BSl w u (L.getD j [])/\Apt P u
theorem BBa.sl{w:G}{P:Nat->Prop}{v:X}{L:List (List Int)}(h:BBa w P v L):BBSl w v L:=by
 rcases h with h| ⟨a,cap,hv,Cx,hc⟩
 . exact AU h
 . refine AW ⟨a,cap,hv,Cx,fun j hj=>?_⟩
   obtain⟨h1,h2,u,h3,h4,_⟩:=hc j hj;exact⟨h1.1,h2,u,h3,h4⟩
theorem BBa.chg{P P':Nat->Prop}{w w':G}{v:X}{L:List (List Int)}(h:BBa w P v L)(hc:Chg P P' w w'):BBa w' P' v L:=by
 rcases h with h| ⟨a,cap,hv,Cx,Dc⟩
 . exact AU h
 . refine AW ⟨a,cap,hv,Cx,fun j hj=>?_⟩
   obtain⟨⟨h1,h1'⟩,h2,u,h3,h4,h5⟩:=Dc j hj;obtain⟨k1,k2⟩:=hc.keep a.block h1 h1';obtain⟨m1,m2⟩:=h4.chg h5 hc;exact⟨⟨AA h1 hc.size,k2⟩,h2,u,by rw[A5 (a:=⟨a.block,a.off+j,J⟩) (w:=w) k1];exact h3,m1,m2⟩
theorem BBa.nil(w:G)(P:Nat->Prop):BBa w P (Ak J 0 0) []:=AU ⟨rfl,rfl⟩
def Cb(U:List (Nat × List Int))(F:List (List Int)):List (List Int):=U.foldl (fun f x=>f.set x.1 x.2) F
theorem N6(U W:List (Nat × List Int))(F:List (List Int)):Cb (U ++ W) F=Cb W (Cb U F):=List.foldl_append
theorem fM(U:List (Nat × List Int))(x:Nat × List Int)(F:List (List Int)):Cb (U ++ [x]) F=(Cb U F).set x.1 x.2:=N6 _ _ _
theorem BU:∀ (U:List (Nat × List Int)) (F:List (List Int)),(Cb U F).length=F.length
 |[],F=>rfl
 |x :: U,F=>by
  show(Cb U (F.set x.1 x.2)).length=_
  rw[BU U,AF]
theorem Dj:∀ (U:List (Nat × List Int)) (F:List (List Int)) (i:Nat),(∀ x∈U,x.1≠i)->(Cb U F).getD i []=F.getD i []
 |[],F,i,_=>rfl
 |x :: U,F,i,h=>by
  show(Cb U (F.set x.1 x.2)).getD i []=_
  rw[Dj U _ i fun y hy=>h y (By _ hy),An,Bp (h x (Cj ..)),<- An]
def DV(kp:Nat->Bool)(U:List (Nat × List Int)):List (Nat × List Int):=((Bu U.length).filter kp).map fun i=>U.getD i (0,[])
theorem Po(kp:Nat->Bool)(U:List (Nat × List Int))(F:List (List Int)):∀ k,Q0 kp U F k=Cb (((Bu k).filter kp).map fun i=>U.getD i (0,[])) F
 |0=>rfl
 |k+1=>by
  unfold Q0;rw[GX,List.filter_append,Cp,N6,<- Po kp U F k];cases hk:kp k
  . simp[hk,Cb]
  . simp[hk,Cb]
theorem RZ(U:List (Nat × List Int)):DV (fun _=>AE) U=U:=by
 unfold DV;rw[List.filter_eq_self.2 (fun _ _=>rfl)];apply Bg
 . simp
 . intro i h1 h2
   simp[h2]
theorem Hn{kp:Nat->Bool}{U:List (Nat × List Int)}{x:Nat × List Int}(h:x∈DV kp U):x∈U:=by
 obtain⟨i,hi,rfl⟩:=BZ.1 h;have hl:i<U.length:=Bd.1 (List.mem_filter.1 hi).1;rw[An,AL hl];exact Be hl
theorem mB(U:List (Nat × List Int))(F:List (List Int)):Q0 (fun _=>AE) U F U.length=Cb U F:=by
 rw[Po];have:=RZ U;unfold DV at this;rw[this]
theorem aW(U:List (Nat × List Int))(F1 V:List (List Int))(hl:F1.length=V.length)(i:Nat):∀ m,(XG U F1 V m).getD i []=if (∃ j,j<m/\(U.getD j (0,[])).1=i) then F1.getD i [] else V.getD i []
 |0=>by
  rw[Ax (by rintro⟨j,hj,_⟩;omega)];rfl
 |m+1=>by
  have ih:=aW U F1 V hl i m;have hlen:=If U F1 V m;unfold XG;by_cases e:(U.getD m (0,[])).1=i
  . rw[Au ⟨m,by omega,e⟩,e]
    by_cases hi:i<V.length
    . simp[hlen,hi]
    . rw[An,A2 (by rw[AF];omega),An,A2 (by omega)]
  . rw[An,Bp e,<- An,ih]
    by_cases h:∃ j,j<m/\(U.getD j (0,[])).1=i
    . obtain⟨j,hj,gP⟩:=h
      rw[Au ⟨j,hj,gP⟩,Au ⟨j,by omega,gP⟩]
    . rw[Ax h,Ax]
      rintro⟨j,hj,gP⟩;by_cases ejm:j=m
      . subst ejm;exact e gP
      . exact h ⟨j,by omega,gP⟩
theorem ra(kp:Nat->Bool)(U:List (Nat × List Int))(F:List (List Int)):XG U (Q0 kp U F U.length) (Cb U F) U.length=Cb (DV kp U) F:=by
 have e1:Q0 kp U F U.length=Cb (DV kp U) F:=Po kp U F _;have hl:(Cb (DV kp U) F).length=(Cb U F).length:=by rw[BU,BU]
 rw[e1];apply Bg
 . rw[If,hl]
 . intro i h1 h2
   have:=aW U (Cb (DV kp U) F) (Cb U F) hl i U.length;have g1:(XG U (Cb (DV kp U) F) (Cb U F) U.length).getD i []=(XG U (Cb (DV kp U) F) (Cb U F) U.length)[i]:=(by simp[h1]);have g2:(Cb (DV kp U) F).getD i []=(Cb (DV kp U) F)[i]:=(by simp[h2]);rw[<- g1,this,<- g2];split
   . rfl
   . rename_i CU
     have hU:∀ x∈U,x.1≠i:=fun x hx e=>by
      obtain⟨j,hj,rfl⟩:=Cw hx;exact CU ⟨j,hj,by rw[An,AL hj];exact e⟩
     rw[Dj U F i hU,Dj _ F i fun x hx=>hU x (Hn hx)]
structure DS where
 F:List (List Int)
 U:List (Nat × List Int)
 fu:Bool
 le:Int
 dn:Bool
def DS.vis(s:DS):List (List Int):=Cb s.U s.F
def DS.ok(s:DS):Bool:=mb s.fu s.le s.dn
def DS.pay(s:DS):DS:={ s with le:=YP s.fu s.le s.dn,dn:=WZ s.fu s.le s.dn }
def DS.write(s:DS)(n:Nat)(l:List Int):DS:={ s.pay with U:=s.U ++ [(n,l)] }
def DS.flush(s:DS):DS:={ s.pay with F:=s.vis,U:=[] }
def DS.crash(s:DS)(k:List Bool):DS:=⟨Cb (DV (fK k) s.U) s.F,[],Ay,0,Ay⟩
def DS.new(n:Nat):DS:=⟨Aw n zb,[],Ay,0,Ay⟩
theorem DS.vis_length(s:DS):s.vis.length=s.F.length:=BU _ _
theorem DS.write_vis(s:DS)(n:Nat)(l:List Int):(s.write n l).vis=s.vis.set n l:=fM _ _ _
theorem DS.flush_vis(s:DS):s.flush.vis=s.vis:=rfl
theorem NE{fu dn:Bool}{le:Int}(h:0<=le/\le<=9223372036854775807):0<=YP fu le dn/\YP fu le dn<=9223372036854775807:=by
 unfold YP;split <;> omega
def VS(bp bf bv:Nat)(u:X)(k:Nat):Prop:=k=bp\/k=bf\/k=bv\/u.ownBlock=Y k
def Dk(w:G)(P:Nat->Prop)(p:X)(s:DS):Prop:=
 ∃ bp bf bv u,p=Al (Y ⟨bp,0,J⟩)/\DskAt w 0 bp bf bv u s.F s.vis s.U s.fu s.le s.dn/\(0<=s.le/\s.le<=9223372036854775807)/\∀ k,P k ↔ VS bp bf bv u k
theorem DskAt.ownlt{w:G}{B bp bf bv:Nat}{u:X}{F V:List (List Int)}{U:List (Nat × List Int)}{fu dn:Bool}{le:Int}(h:DskAt w B bp bf bv u F V U fu le dn)(k:Nat)(hk:VS bp bf bv u k):k<w.heap.size:=by
 rcases hk with rfl|rfl|rfl|hk
 . exact(Ah.1 h.hp).1
 . exact(Ah.1 h.hf).1
 . exact(Ah.1 h.hv).1
 . exact(h.hu.lt k hk).2
theorem Dk.lt{w:G}{P:Nat->Prop}{p:X}{s:DS}(h:Dk w P p s)(k:Nat)(hk:P k):k<w.heap.size:=by
 obtain⟨bp,bf,bv,u,_,hd,_,hP⟩:=h;exact hd.ownlt k ((hP k).1 hk)
theorem Dk.below{w w':G}{P:Nat->Prop}{p:X}{s:DS}(h:Dk w P p s)(hb:Ap w.heap.size w w'):Dk w' P p s:=by
 obtain⟨bp,bf,bv,u,hp,hd,hl,hP⟩:=h;exact⟨bp,bf,bv,u,hp,hd.below hb,hl,hP⟩
theorem Dk.ptr{w:G}{P:Nat->Prop}{p:X}{s:DS}(h:Dk w P p s):∃ bp,p=Al (Y ⟨bp,0,J⟩):=by
 obtain⟨bp,_,_,_,hp,_⟩:=h;exact⟨bp,hp⟩
theorem DskAt.lower{w:G}{B bp bf bv:Nat}{u:X}{F V:List (List Int)}{U:List (Nat × List Int)}{fu dn:Bool}{le:Int}(h:DskAt w B bp bf bv u F V U fu le dn):DskAt w 0 bp bf bv u F V U fu le dn:=
 { h with bB:=⟨AT _,AT _,AT _⟩,hu:=⟨h.hu.1,h.hu.2.imp id fun⟨g,cap,cur,hv,_,r⟩=>⟨g,cap,cur,hv,AT _,r⟩⟩ }
theorem Chg.of_wrote{bp bf bv:Nat}{u:X}{P:Nat->Prop}(hP:∀ k,P k ↔ VS bp bf bv u k){w w':G}(h:Wrote w w' bp):Chg P P w w':=
 ⟨h.1,h.2.1,h.2.2.1,DU h.2.2.2.1.symm,fun k _ hn=>⟨h.2.2.2.2 k fun e=>hn ((hP k).2 (AU e)),hn⟩⟩
theorem Chg.of_frU{bp bf bv:Nat}{u u':X}{P:Nat->Prop}(hP:∀ k,P k ↔ VS bp bf bv u k){w w':G}(h:FrU w w' bp bf bv u u'):Chg P (VS bp bf bv u') w w':=
 ⟨h.os,h.tape,h.output,h.size,fun k hk hn=>by
   have h1:k≠bp:=fun e=>hn ((hP k).2 (AU e))
   have h2:k≠bf:=fun e=>hn ((hP k).2 (AW (AU e)))
   have h3:k≠bv:=fun e=>hn ((hP k).2 (AW (AW (AU e))))
   have h4:u.ownBlock≠Y k:=fun e=>hn ((hP k).2 (AW (AW (AW e))))
   refine⟨h.block k hk h1 h2 h3 h4,?_⟩;rintro(e|e|e|e)
   . exact h1 e
   . exact h2 e
   . exact h3 e
   . rcases h.own k e with e|e
     . exact h4 e
     . omega⟩
theorem Chg.of_fr3{bp bf bv:Nat}{u:X}{P:Nat->Prop}(hP:∀ k,P k ↔ VS bp bf bv u k){w w':G}(h:Fr3 w w' bp bf bv):Chg P (VS bp bf bv (Ak J 0 0)) w w':=
 Chg.of_frU hP ⟨h.os,h.tape,h.output,h.size,fun k hk h1 h2 h3 _=>h.block k hk h1 h2 h3,fun k hk=>by simp[X.ownBlock] at hk⟩
def QN(l:List Int)(n:Int):Bool:=l.any fun x=>x==n
theorem iw{l:List Int}{n:Int}(k:Nat)(hk:k<l.length)(h:l.getD k 0=n):QN l n=AE:=by
 unfold QN;rw[List.any_eq_true];refine⟨l[k],Be hk,?_⟩;have e:l.getD k 0=l[k]:=by simp[hk]
 rw[<- e,h];simp
theorem oH{l:List Int}{n:Int}(h:∀ k,k<l.length->l.getD k 0≠n):QN l n=Ay:=by
 unfold QN;rw[List.any_eq_false];intro x hx;obtain⟨k,hk,rfl⟩:=Cw hx;have e:l.getD k 0=l[k]:=by simp[hk]
 have:=h k hk;rw[e] at this
 simpa using this
theorem kU(N:List Int)(i:Nat):YZ N i=!(QN (N.take i) (N.getD i 0)):=by
 unfold YZ QN;rw[List.not_any_eq_all_not]
def l_(N:List Int)(i:Nat):Bool:=S0 (N.getD i 0) && YZ N i
def aZ(N:List Int)(k:Nat):Bool:=(Bu k).all fun i=>l_ N i
def ED(N:List Int):Bool:=decide (N.length<=37) && aZ N N.length
theorem Lk(N:List Int)(k:Nat):aZ N k=AE ↔ ∀ i,i<k->l_ N i=AE:=by
 unfold aZ;rw[Dh];exact⟨fun h i hi=>h i (Bd.2 hi),fun h i hi=>h i (Bd.1 hi)⟩
theorem kj{N:List Int}(i:Nat)(hi:i<N.length)(h:l_ N i=Ay):ED N=Ay:=by
 cases e:ED N
 . rfl
 . unfold ED at e
   rw[AQ] at e;rw[(Lk N _).1 e.2 i hi] at h;cases h
theorem QU{N:List Int}(h:37<N.length):ED N=Ay:=by
 unfold ED;rw[AB (by omega)];rfl
theorem dm{N:List Int}(h1:N.length<=37)(h:∀ i,i<N.length->l_ N i=AE):ED N=AE:=by
 unfold ED;rw[Az h1,(Lk N _).2 h];rfl
def H3(D:List (List Int)):Bool:=(Bu D.length).all fun i=>decide ((D.getD i []).length=256)
theorem ND(D:List (List Int)):H3 D=AE ↔ ∀ i,i<D.length->(D.getD i []).length=256:=by
 unfold H3;rw[Dh];exact⟨fun h i hi=>AX (h i (Bd.2 hi)),fun h i hi=>Az (h i (Bd.1 hi))⟩
theorem iH{D:List (List Int)}(i:Nat)(hi:i<D.length)(h:(D.getD i []).length≠256):H3 D=Ay:=by
 cases e:H3 D
 . rfl
 . exact absurd ((ND D).1 e i hi) h
theorem Jf(N:List Int)(D:List (List Int)):Gf N D=(ED N && (decide (D.length=N.length) && H3 D)):=by
 by_cases h1:N.length<=37
 . by_cases h2:D.length=N.length
   . unfold Gf ED H3
     rw[Az h1,Az h2,h2,AG,AG,AG];have:∀ k,Z5 N D k=(aZ N k && (Bu k).all fun i=>decide ((D.getD i []).length=256)):=fun k=>by
      rw[Bool.eq_iff_iff,AQ,Nc,Lk,Dh];constructor
      . intro h
        refine⟨fun i hi=>?_,fun i hi=>?_⟩
        . have:=h i hi
          unfold Y5 at this;unfold l_;rw[AQ,AQ] at this;rw[this.1,this.2.2];rfl
        . have:=h i (Bd.1 hi)
          unfold Y5 at this;rw[AQ,AQ] at this;exact this.2.1
      . rintro⟨ha,hb⟩ i hi
        have h3:=ha i hi;have h4:=hb i (Bd.2 hi);unfold l_ at h3;rw[AQ] at h3;unfold Y5;rw[h3.1,h3.2,h4];rfl
     exact this _
   . rw[jN h2,AB h2];simp
 . rw[bZ (by omega),QU (by omega)];rfl
theorem GN{N:List Int}(h:ED N=AE):N.length<=37/\∀ i,i<N.length->0<=N.getD i 0/\N.getD i 0<=767:=by
 unfold ED at h;rw[AQ,A4,Lk] at h;refine⟨h.1,fun i hi=>?_⟩;have:=h.2 i hi;unfold l_ S0 at this;rw[AQ,A4] at this;exact this.1
theorem YU{w:G}{v:X}{l:List Int}(hs:ISl w v l)(hl:l.length<=1000000)(n:Int):Av Ae 246 #[v,I Ad n] w fun e w'=>(∃ r:Int,e=Aj (I Ad r)/\decide (0<=r)=QN l n/\ -1<=r/\r<=1000000)/\w=w':=by
 obtain⟨ao,cap,rfl,hc⟩:=hs.open';have hyes:=fun k (hk:k<l.length)=>iw (l:=l) (n:=n) k hk
 have CU:=oH (l:=l) (n:=n);obtain⟨R,hR⟩:=nm (QN l n);rw[<- hR] at hyes CU |-
 obtain⟨N,hN⟩:=nm l.length;rw[<- hN] at hc CU hyes hl |-
 have HC:=wM hc;have HNO:=wM CU;have HYE:=wM hyes;clear hc CU hyes hR hs hN;go_enter Tryz.func246,Tryz.ntmps246;go_wp2
 go_loop [8] (fun i=>∃ k:Nat,k<=N/\i=I Ad k/\Hid (∀ j,j<k->l.getD j 0≠n)) (fun i=>N-(intOf i).toNat)
 case atStart=>exact⟨0,by omega,rfl,fun j hj=>absurd hj (A9 _)⟩
 case round=>
  obtain⟨k,hk,rfl,HK⟩:=hrel;by_cases hlt:k<N
  . obtain⟨b,off,rfl,_,hcc⟩:=HC.out (by omega)
    have hck:=hcc k hlt;have hy1:=HYE.out k hlt;obtain⟨x,hx⟩:=nm (l.getD k 0);rw[<- hx] at hck hy1;have HX:=wM hx;have HY1:=wM hy1;have ek:(k:Int)<(N:Int):=(by omega);clear hx hcc hy1;by_cases hf:n=x
    . have hR:=HY1.out hf.symm
      subst hR;subst hf;go_wp2;go_ret;exact⟨⟨_,rfl,by simp,by omega,by omega⟩,rfl⟩
    . have HF:=wM hf
      go_wp2
      go_round
      case rel=>
       refine⟨k+1,by omega,by go_num,fun j hj=>?_⟩;by_cases e:j=k
       . subst e;rw[<- HX.out];exact fun h=>HF.out h.symm
       . exact HK.out j (by omega)
      case measure=>simp[intOf];omega
  . obtain rfl:k=N:=by omega
    have hR:=HNO.out HK.out;subst hR;go_wp2;go_ret;exact⟨⟨_,rfl,by decide,by decide,by decide⟩,rfl⟩
theorem bX{w:G}{v:X}{l:List Int}(hs:ISl w v l)(hl:l.length<=1000000)(n:Int)(B:Bool)(hB:QN l n=B):Av Ae 222 #[v,I Ad n] w fun e w'=>e=Aj (AP B)/\w=w':=by
 have K:=wM (YU hs hl n);rw[hB] at K;clear hB hs hl;go_enter Tryz.func222,Tryz.ntmps222;go_wp2_with (go_at_call 246;(with_reducible refine K.out.mono ?_);rintro e w2 ⟨⟨r,rfl,hr,Il,hr1⟩,rfl⟩)
 go_ret;exact⟨by rw[<- hr];rfl,rfl⟩
end
end Go.Proofs.YtfpdajplfmakhaaGreatDoor
