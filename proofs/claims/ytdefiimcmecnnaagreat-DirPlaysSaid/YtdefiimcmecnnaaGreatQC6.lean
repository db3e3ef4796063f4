/- What the law rests on. -/
import Derived.Maps.Own
import Derived.Maps.OwnSet
import Derived.Maps.Views
import Derived.Lib.SlKeysI
import Derived.Lib.SlMapMerge
import Derived.Shelf.SlIterI.Nil
import Derived.Shelf.SlMaps.Copy
import Derived.Shelf.SortM.Plain
import Derived.Shelf.SortM.SortNone
import Derived.Shelf.SlGeneric
import Derived.Maps.RangeWalk
import Derived.Test.YtdefiimcmecnnaaGreatQC5
open Go.Value renaming int->J,slice->Ak,pointer->Am,tuple->AO,bool->A1,agg->BD
open Go.IntKind renaming i64->Y
open Go.Proofs.Tryz renaming prog->V
open Option renaming none->H,some->Z
open Go.Ending renaming returned->Ag
open Go renaming World->K,Value->S,Calls->C,Oper->BS,wpList->Cn
open Go.Obj renaming cells->Ar
open Go.RowKit renaming Below->At
open List renaming replicate->AD,range->Co
open Bool renaming false->I,true->A
open Or renaming inl->AN,inr->Ba
namespace Go.Proofs.YtdefiimcmecnnaaGreat
set_option maxHeartbeats 12000000
set_option linter.unusedVariables false
set_option maxRecDepth 100000
theorem BI:type_of% @List.not_mem_nil:=@List.not_mem_nil
theorem Dx:type_of% @Prod.mk.inj:=@Prod.mk.inj
section
open Go.RowKit Go.Maps
def hdr(v:S):Option (DataW Unit × List MemPlace):=
 match v with
 |Ak H 0 0=>Z (.nil,[])
 |Ak (Z ⟨b,off,H⟩) n c=>Z (.agg [.lit (.int .u64 b),.lit (.int .u64 off),.lit (.int .u64 n),.lit (.int .u64 c)],[])
 |_=>H
theorem oB:hdr (Ak H 0 0)=Z (.nil,[]):=rfl
theorem jv(b off n c:Nat):hdr (Ak (Z ⟨b,off,H⟩) n c)=Z (.agg [.lit (.int .u64 b),.lit (.int .u64 off),.lit (.int .u64 n),.lit (.int .u64 c)],[]):=rfl
theorem TQ{v:S}{y:DataW Unit × List MemPlace}(h:hdr v=Z y):(v=Ak H 0 0/\y=(.nil,[]))\/∃ b off n c,v=Ak (Z ⟨b,off,H⟩) n c/\y=(.agg [.lit (.int .u64 b),.lit (.int .u64 off),.lit (.int .u64 n),.lit (.int .u64 c)],[]):=by
 unfold hdr at h;split at h
 . exact AN ⟨rfl,(Bz h).symm⟩
 . exact Ba ⟨_,_,_,_,rfl,(Bz h).symm⟩
 . cases h
theorem bE{v v':S}{d:DataW Unit}{ps ps':List MemPlace}(h:hdr v=Z (d,ps))(h':hdr v'=Z (d,ps')):v=v':=by
 rcases TQ h with⟨rfl,e⟩| ⟨b,off,n,c,rfl,e⟩ <;> rcases TQ h' with⟨rfl,e'⟩| ⟨b',off',n',c',rfl,e'⟩
 . rfl
 . have e1:=(Dx e).1.symm.trans (Dx e').1;cases e1
 . have e1:=(Dx e).1.symm.trans (Dx e').1;cases e1
 . have e1:=(Dx e).1.symm.trans (Dx e').1
   simp only[DataW.agg.injEq,List.cons.injEq,DataW.lit.injEq,Lit.int.injEq,true_and,and_true,Int.natCast_inj] at e1;obtain⟨rfl,rfl,rfl,rfl⟩:=e1;rfl
def Mp(w:K)(b:Nat)(N:List Int)(g:Int->S):Prop:=
 ∃ D:DataW Unit,w.ownsMap V 3 hdr b N.length D/\N.Nodup/\(∀ x∈N,(Lit.int Y x).wf=A)/\(∀ x,Maps.has D (.int Y x)=decide (x∈N))/\∀ x∈N,∃ d,hdr (g x)=Z (d,[])/\∀ z,D.atKey (.int Y x) z=d
theorem nZ:(V.info? 49).map (fun i=>(i.zero,i.size,i.bytes))=Z (Z (Ak H 0 0),1,24):=by kernel_rfl
theorem bU(w:K):(zeroValue 49).run V w=.ok (Ak H 0 0) w:=by
 obtain⟨t,h2,h3,_⟩:=By nZ;simp[zeroValue,typeInfo,h2,h3,Result.andThen]
theorem Z6{w:K}{b n:Nat}{D:DataW Unit}(h:w.ownsMap V 3 hdr b n D):w.ownsMap V 3 hdr b (Maps.size D) D:=by
 obtain⟨es,clock,hb,F,hs,rfl⟩:=h;exact⟨es,clock,hb,F,Nat.le_of_eq (by unfold Maps.size;exact(length_read es).symm),rfl⟩
theorem LZ{w:K}{b n:Nat}{D:DataW Unit}(h:w.ownsMap V 3 hdr b n D){N:List Int}(hN:N.Nodup)(hh:∀ x,Maps.has D (.int Y x)=decide (x∈N)):N.Perm (intKeys D)/\Maps.size D=N.length:=by
 obtain⟨es,rfl,hp,_⟩:=h.entries iKeyed;have hk:∀ p∈es,∃ x,p.1=.int Y x:=fun p hp'=>by
  obtain⟨es',e1,_,k⟩:=h.canonK iKeyed;cases e1
  obtain⟨v,hv⟩:=k p hp';obtain⟨x,_,e,_⟩:=Maps.keyOf_i64 Tryz.underlying3 hv;exact⟨x,e⟩
 have hperm:=perm_intKeys hp hk hN (fun x=>by rw[hh x,Bd]);refine⟨hperm,?_⟩;have:=hperm.length_eq;rw[this];show es.length=(es.map fun p=>_root_.Go.intOf p.1).length
 rw[Bk]
theorem aN{w:K}{b n:Nat}{D:DataW Unit}(h:w.ownsMap V 3 hdr b n D){N:List Int}{g:Int->S}(hN:N.Nodup)(hw:∀ x∈N,(Lit.int Y x).wf=A)(hh:∀ x,Maps.has D (.int Y x)=decide (x∈N))(hg:∀ x∈N,∃ d,hdr (g x)=Z (d,[])/\∀ z,D.atKey (.int Y x) z=d):Mp w b N g:=by
 obtain⟨_,e⟩:=LZ h hN hh;have h':=Z6 h;rw[e] at h';exact⟨D,h',hN,hw,hh,hg⟩
section
variable {w:K}{b:Nat}{N:List Int}{g:Int->S}
theorem Mp.lt(h:Mp w b N g):b<w.heap.size:=by
 obtain⟨D,h,_⟩:=h;exact h.lt
theorem Mp.keep{w':K}(h:Mp w b N g)(hk:w'.heap[b]? =w.heap[b]?):Mp w' b N g:=by
 obtain⟨D,⟨es,clock,hb,r⟩,r'⟩:=h;exact⟨D,⟨es,clock,hk.trans hb,r⟩,r'⟩
theorem Mp.not_cells(h:Mp w b N g){k:Nat}{cs:Array S}{T:TypeId}{z:Nat × Nat}(hk:w.heap[k]? =Z (Ar cs T z)):b≠k:=fun e=>by
 obtain⟨D,⟨es,clock,hb,_⟩,_⟩:=h;rw[e,hk] at hb;cases hb
theorem Mp.nodup(h:Mp w b N g):N.Nodup:=by obtain⟨_,_,h,_⟩:=h;exact h
theorem Mp.wf(h:Mp w b N g):∀ x∈N,(Lit.int Y x).wf=A:=by obtain⟨_,_,_,h,_⟩:=h;exact h
theorem Mp.made(w:K)(g:Int->S):Mp (w.alloc (.map #[] 0)) w.heap.size [] g:=
 ⟨.map [],K.ownsMap_made w _ _ _,List.nodup_nil,fun x hx=>absurd hx BI,fun x=>rfl,fun x hx=>absurd hx BI⟩
theorem Mp.len(h:Mp w b N g)(ty:TypeId):(Builtin.len_ #[70] ty #[.map (Z b)]).run V w=.ok (.int Y N.length) w:=by
 obtain⟨D,h1,h2,h3,h4,h5⟩:=h;rw[h1.len Tryz.underlying70 ty,(LZ h1 h2 h4).2]
theorem Mp.look_ok(h:Mp w b N g){x:Int}(hx:(Lit.int Y x).wf=A):(Instr.lookup 70 (.map (Z b)) (.int Y x) A).run V w=.ok (AO #[if x∈N then g x else Ak H 0 0,.bool (decide (x∈N))]) w:=by
 obtain⟨D,⟨es,clock,hb,F,hs,rfl⟩,h2,h3,h4,h5⟩:=h;rcases Maps.fit_look A iKeyed Tryz.underlying70 (bU w) hb F (nG hx) with⟨DY,C6,Ha⟩| ⟨e0,y,he0,hk,DY,hRv,Ha,_⟩
 . have hn:x ∉ N:=fun hin=>by
    obtain⟨d,hd,ha⟩:=h5 x hin;have e1:=(Ha .nil).symm.trans (ha .nil);have e2:=(Ha (.lit (.bool A))).symm.trans (ha (.lit (.bool A)));rw[<- e1] at e2;cases e2
   rw[AE hn,AG hn];exact DY
 . have hn:x∈N:=by
    have:=h4 x;rw[Maps.has_true_of_atKey Ha] at this;exact A7 this.symm
   rw[AC hn,AF hn];obtain⟨d,hd,ha⟩:=h5 x hn;have e1:y.1=d:=(Ha .nil).symm.trans (ha .nil);have:e0.val=g x:=bE (ps:=y.2) (by rw[hRv,<- e1]) hd;rw[<- this];exact DY
theorem Mp.look(h:Mp w b N g){x:Int}(hx:x∈N):(Instr.lookup 70 (.map (Z b)) (.int Y x) I).run V w=.ok (g x) w:=by
 have hw:=h.wf x hx;obtain⟨D,h1,h2,h3,h4,h5⟩:=h;obtain⟨v,ps,DY,hv⟩:=h1.lookup iKeyed Tryz.underlying70 (bU w) oB (nG hw);obtain⟨d,hd,ha⟩:=h5 x hx;rw[ha] at hv;rw[bE hd hv];exact DY
theorem Mp.store(h:Mp w b N g){x:Int}(hx:(Lit.int Y x).wf=A){v:S}{d:DataW Unit}(hv:hdr v=Z (d,[]))(hN:N.length<1000000):
 ∃ w',(Instr.mapUpdate 70 (.map (Z b)) (.int Y x) v).run V w=.ok () w'/\Mp w' b (Fj N x) (fun y=>if y=x then v else g y)/\w.grownBy w' (Z b)/\w'.heap.size=w.heap.size:=by
 obtain⟨D,h1,h2,h3,h4,h5⟩:=h;have hlt:N.length<maxLen:=by simp only[maxLen];omega
 have hm:=h1.isMap;have hkl:WideAt.IsKeyLit (.int Y x):=iKeyed.key (nG hx);obtain⟨w',DY,h6,hg,ht⟩:∃ w',(Instr.mapUpdate 70 (.map (Z b)) (.int Y x) v).run V w=.ok () w'/\w'.ownsMap V 3 hdr b (N.length+1) (D.put (.int Y x) d)/\w.grownBy w' (Z b)/\w'.heap.size=w.heap.size:=by
  obtain⟨w',DY,h6,h7⟩:=h1.store iKeyed Tryz.underlying70 hlt (nG hx) hv;exact⟨w',DY,h6,h7.grown,by obtain⟨_,_,_,_,_,rfl⟩:=h7;simp[ChangeMaps.setBlock]⟩
 refine⟨w',DY,aN h6 ?_ ?_ ?_ ?_,hg,ht⟩
 . unfold Fj
   split
   . exact h2
   . rename_i hn
     exact List.nodup_append.2 ⟨h2,by simp,fun a ha c hc e=>hn (by simp at hc;rw[<- hc,<- e];exact ha)⟩
 . intro y hy
   unfold Fj at hy;split at hy
   . exact h3 y hy
   . rcases C0.1 hy with hy|hy
     . exact h3 y hy
     . simp at hy;subst hy;exact hx
 . intro y
   have hmem:y∈Fj N x ↔ y∈N\/y=x:=by
    unfold Fj;split
    . exact⟨AN,fun h=>h.elim id fun e=>by rw[e];assumption⟩
    . simp
   by_cases e:y=x
   . subst e
     rw[Maps.has_put_same hm hkl,AF (hmem.2 (Ba rfl))]
   . rw[Maps.has_put_other (fun e'=>e (by cases e';rfl)),h4 y]
     exact decide_eq_decide.2 ⟨fun h=>hmem.2 (AN h),fun h=>(hmem.1 h).resolve_right e⟩
 . intro y hy
   by_cases e:y=x
   . subst e
     exact⟨d,by rw[AC rfl];exact hv,fun z=>Maps.atKey_put_same hm hkl d z⟩
   . have hy':y∈N:=by
      unfold Fj at hy;split at hy
      . exact hy
      . exact(C0.1 hy).resolve_right fun h=>e (by simpa using h)
     obtain⟨d',hd',ha'⟩:=h5 y hy';exact⟨d',by rw[AE e];exact hd',fun z=>by rw[Maps.atKey_put_other (fun e'=>e (by cases e';rfl))];exact ha' z⟩
end
end
section
open Go.RowKit Go.Shelf
def dR:Go.Shelf.Ren:=⟨fun|5=>76|n=>n,fun|23=>70|24=>70|26=>3|27=>49|0=>0|4=>4|n=>n,fun|n=>n⟩
theorem s_:Go.Proofs.SlLaysX.n5 V dR:={
 mixed:=by kernel_rfl,
 f5:=⟨Tryz.f76.name,by decide,Tryz.func76.trans (BH Z (by kernel_rfl))⟩,
 t0:=Tryz.underlying0,
 a0:=Tryz.isAgg0,
 z0:=Tryz.sizeOf0,
 v0:=Tryz.zeroValue0,
 t4:=Tryz.underlying4,
 a4:=Tryz.isAgg4,
 z4:=Tryz.sizeOf4,
 v4:=Tryz.zeroValue4,
 t23:=Tryz.underlying70,
 a23:=Tryz.isAgg70,
 z23:=Tryz.sizeOf70,
 v23:=Tryz.zeroValue70,
 t24:=Tryz.underlying70,
 a24:=Tryz.isAgg70,
 z24:=Tryz.sizeOf70,
 v24:=Tryz.zeroValue70,
 a26:=Tryz.isAgg3,
 z26:=Tryz.sizeOf3,
 a27:=Tryz.isAgg49,
 z27:=Tryz.sizeOf49 }
def Tj:Go.Shelf.Ren:=⟨fun|7=>165|10=>192|n=>n,fun|23=>70|26=>3|3=>49|28=>231|0=>0|27=>223|33=>166|4=>4|n=>n,fun|n=>n⟩
theorem pi:Go.Proofs.SlLaysZI.n7 V Tj:={
 mixed:=by kernel_rfl,
 f7:=⟨Tryz.f165.name,by decide,Tryz.func165.trans (BH Z (by kernel_rfl))⟩,
 f10:=⟨Tryz.f192.name,by decide,Tryz.func192.trans (BH Z (by kernel_rfl))⟩,
 t0:=Tryz.underlying0,
 a0:=Tryz.isAgg0,
 z0:=Tryz.sizeOf0,
 v0:=Tryz.zeroValue0,
 t4:=Tryz.underlying4,
 a4:=Tryz.isAgg4,
 z4:=Tryz.sizeOf4,
 v4:=Tryz.zeroValue4,
 t23:=Tryz.underlying70,
 a23:=Tryz.isAgg70,
 z23:=Tryz.sizeOf70,
 v23:=Tryz.zeroValue70,
 t26:=Tryz.underlying3,
 a26:=Tryz.isAgg3,
 z26:=Tryz.sizeOf3,
 v26:=Tryz.zeroValue3,
 t27:=Tryz.underlying223,
 a27:=Tryz.isAgg223,
 z27:=Tryz.sizeOf223,
 v27:=Tryz.zeroValue223,
 t28:=Tryz.underlying231,
 a28:=Tryz.isAgg231,
 z28:=Tryz.sizeOf231,
 v28:=Tryz.zeroValue231,
 t33:=Tryz.underlying166,
 a33:=Tryz.isAgg166,
 z33:=Tryz.sizeOf166,
 v33:=Tryz.zeroValue166 }
def Ps:Go.Shelf.Ren:=⟨fun|6=>164|8=>190|9=>191|11=>205|13=>207|12=>206|23=>230|24=>231|14=>221|15=>222|16=>223|17=>224|18=>225|19=>226|20=>227|21=>228|22=>229|25=>247|26=>248|27=>249|28=>250|29=>251|30=>252|31=>262|n=>n,fun|26=>3|28=>231|24=>175|0=>0|3=>3|37=>248|48=>68|50=>148|4=>4|40=>287|39=>286|45=>203|5=>5|9=>9|51=>302|55=>242|57=>315|58=>199|33=>166|n=>n,fun|n=>n⟩
theorem mC:Go.Proofs.SlLaysZI.n6 V Ps:={
 mixed:=by kernel_rfl,
 f6:=⟨Tryz.f164.name,by decide,Tryz.func164.trans (BH Z (by kernel_rfl))⟩,
 f8:=⟨Tryz.f190.name,by decide,Tryz.func190.trans (BH Z (by kernel_rfl))⟩,
 f11:=⟨Tryz.f205.name,by decide,Tryz.func205.trans (BH Z (by kernel_rfl))⟩,
 t0:=Tryz.underlying0,
 a0:=Tryz.isAgg0,
 z0:=Tryz.sizeOf0,
 v0:=Tryz.zeroValue0,
 t24:=Tryz.underlying175,
 a24:=Tryz.isAgg175,
 z24:=Tryz.sizeOf175,
 v24:=Tryz.zeroValue175,
 t26:=Tryz.underlying3,
 a26:=Tryz.isAgg3,
 z26:=Tryz.sizeOf3,
 v26:=Tryz.zeroValue3,
 t28:=Tryz.underlying231,
 a28:=Tryz.isAgg231,
 z28:=Tryz.sizeOf231,
 v28:=Tryz.zeroValue231,
 i26:=by kernel_rfl }
def du:Go.Shelf.Ren:=⟨fun|5=>191|8=>207|7=>206|19=>230|20=>231|10=>221|11=>222|12=>223|13=>224|14=>225|15=>226|16=>227|17=>228|18=>229|30=>247|31=>248|32=>249|33=>250|34=>251|35=>252|40=>262|n=>n,fun|23=>175|25=>3|3=>3|32=>248|22=>175|0=>0|44=>68|46=>148|4=>4|36=>287|35=>286|41=>203|5=>5|9=>9|53=>302|57=>242|63=>315|64=>199|n=>n,fun|n=>n⟩
theorem pb:Go.Proofs.SlLaysM.n5 V du:={
 mixed:=by kernel_rfl,
 f5:=⟨Tryz.f191.name,by decide,Tryz.func191.trans (BH Z (by kernel_rfl))⟩,
 f7:=⟨Tryz.f206.name,by decide,Tryz.func206.trans (BH Z (by kernel_rfl))⟩,
 f8:=Tryz.func207.trans (BH Z (by kernel_rfl)),
 f10:=⟨Tryz.f221.name,by decide,Tryz.func221.trans (BH Z (by kernel_rfl))⟩,
 f11:=⟨Tryz.f222.name,by decide,Tryz.func222.trans (BH Z (by kernel_rfl))⟩,
 f12:=⟨Tryz.f223.name,by decide,Tryz.func223.trans (BH Z (by kernel_rfl))⟩,
 f13:=⟨Tryz.f224.name,by decide,Tryz.func224.trans (BH Z (by kernel_rfl))⟩,
 f14:=⟨Tryz.f225.name,by decide,Tryz.func225.trans (BH Z (by kernel_rfl))⟩,
 f15:=⟨Tryz.f226.name,by decide,Tryz.func226.trans (BH Z (by kernel_rfl))⟩,
 f16:=⟨Tryz.f227.name,by decide,Tryz.func227.trans (BH Z (by kernel_rfl))⟩,
 f17:=⟨Tryz.f228.name,by decide,Tryz.func228.trans (BH Z (by kernel_rfl))⟩,
 f18:=⟨Tryz.f229.name,by decide,Tryz.func229.trans (BH Z (by kernel_rfl))⟩,
 f19:=Tryz.func230.trans (BH Z (by kernel_rfl)),
 f20:=Tryz.func231.trans (BH Z (by kernel_rfl)),
 f30:=⟨Tryz.f247.name,by decide,Tryz.func247.trans (BH Z (by kernel_rfl))⟩,
 f31:=Tryz.func248.trans (BH Z (by kernel_rfl)),
 f32:=Tryz.func249.trans (BH Z (by kernel_rfl)),
 f33:=⟨Tryz.f250.name,by decide,Tryz.func250.trans (BH Z (by kernel_rfl))⟩,
 f34:=⟨Tryz.f251.name,by decide,Tryz.func251.trans (BH Z (by kernel_rfl))⟩,
 f35:=⟨Tryz.f252.name,by decide,Tryz.func252.trans (BH Z (by kernel_rfl))⟩,
 f40:=⟨Tryz.f262.name,by decide,Tryz.func262.trans (BH Z (by kernel_rfl))⟩,
 t0:=Tryz.underlying0,
 a0:=Tryz.isAgg0,
 z0:=Tryz.sizeOf0,
 v0:=Tryz.zeroValue0,
 t3:=Tryz.underlying3,
 a3:=Tryz.isAgg3,
 z3:=Tryz.sizeOf3,
 v3:=Tryz.zeroValue3,
 t4:=Tryz.underlying4,
 a4:=Tryz.isAgg4,
 z4:=Tryz.sizeOf4,
 v4:=Tryz.zeroValue4,
 t5:=Tryz.underlying5,
 a5:=Tryz.isAgg5,
 z5:=Tryz.sizeOf5,
 v5:=Tryz.zeroValue5,
 t9:=Tryz.underlying9,
 a9:=Tryz.isAgg9,
 z9:=Tryz.sizeOf9,
 v9:=Tryz.zeroValue9,
 t22:=Tryz.underlying175,
 a22:=Tryz.isAgg175,
 z22:=Tryz.sizeOf175,
 v22:=Tryz.zeroValue175,
 t23:=Tryz.underlying175,
 a23:=Tryz.isAgg175,
 z23:=Tryz.sizeOf175,
 v23:=Tryz.zeroValue175,
 t25:=Tryz.underlying3,
 a25:=Tryz.isAgg3,
 z25:=Tryz.sizeOf3,
 v25:=Tryz.zeroValue3,
 t32:=Tryz.underlying248,
 a32:=Tryz.isAgg248,
 z32:=Tryz.sizeOf248,
 v32:=Tryz.zeroValue248,
 t35:=Tryz.underlying286,
 a35:=Tryz.isAgg286,
 z35:=Tryz.sizeOf286,
 v35:=Tryz.zeroValue286,
 t36:=Tryz.underlying287,
 a36:=Tryz.isAgg287,
 z36:=Tryz.sizeOf287,
 v36:=Tryz.zeroValue287,
 t41:=Tryz.underlying203,
 a41:=Tryz.isAgg203,
 z41:=Tryz.sizeOf203,
 v41:=Tryz.zeroValue203,
 t44:=Tryz.underlying68,
 a44:=Tryz.isAgg68,
 z44:=Tryz.sizeOf68,
 v44:=Tryz.zeroValue68,
 t46:=Tryz.underlying148,
 a46:=Tryz.isAgg148,
 z46:=Tryz.sizeOf148,
 v46:=Tryz.zeroValue148,
 t53:=Tryz.underlying302,
 a53:=Tryz.isAgg302,
 z53:=Tryz.sizeOf302,
 v53:=Tryz.zeroValue302,
 t57:=Tryz.underlying242,
 a57:=Tryz.isAgg242,
 z57:=Tryz.sizeOf242,
 v57:=Tryz.zeroValue242,
 t63:=Tryz.underlying315,
 a63:=Tryz.isAgg315,
 z63:=Tryz.sizeOf315,
 v63:=Tryz.zeroValue315,
 t64:=Tryz.underlying199,
 a64:=Tryz.isAgg199,
 z64:=Tryz.sizeOf199,
 v64:=Tryz.zeroValue199 }
end
section
open Go.RowKit Go.Maps Go.Shelf
def Fe(N M:List Int):List Int:=N ++ M.filter fun x=>decide (x ∉ N)
theorem mem_uniN{N M:List Int}{x:Int}:x∈Fe N M ↔ x∈N\/x∈M:=by
 unfold Fe;rw[C0,List.mem_filter,Bd];by_cases h:x∈N
 . simp[h]
 . simp[h]
theorem YF{N M:List Int}(h:N.Nodup)(k:M.Nodup):(Fe N M).Nodup:=by
 refine List.nodup_append.2 ⟨h,k.filter _,fun a ha c hc e=>?_⟩;have:=(List.mem_filter.1 hc).2;rw[Bd] at this;exact this (e ▸ ha)
def BV(N:List Int):List Int:=N.mergeSort leI
theorem MU(N:List Int):(BV N).Perm N:=List.mergeSort_perm N leI
theorem Hw(N:List Int):(BV N).length=N.length:=(MU N).length_eq
theorem mem_sortN{N:List Int}{x:Int}:x∈BV N ↔ x∈N:=(MU N).mem_iff
theorem VZ{N:List Int}(h:N.Nodup):(BV N).Nodup:=(MU N).nodup_iff.2 h
theorem iX{w:K}{bd bs:Nat}{N M:List Int}{g h:Int->S}(hd:Mp w bd N g)(hs:Mp w bs M h)(hne:bd≠bs)(hroom:N.length+M.length<=1000000):
 C V 76 #[.map (Z bd),.map (Z bs)] w fun e w'=>e=Ag (AO #[])/\Mp w' bd (Fe N M) (fun x=>if x∈M then h x else g x)/\Mp w' bs M h/\w.grownBy w' (Z bd):=by
 obtain⟨Dd,d1,d2,d3,d4,d5⟩:=hd;obtain⟨Ds,s1,s2,s3,s4,s5⟩:=hs;have En:=(LZ s1 s2 s4).2;have hcon:=AnyX.maps_Copy s_ iKeyed hdr bd bs N.length M.length Dd Ds w d1 s1 hne (by rw[En];simp only[maxLen];omega);change C V 76 _ _ _ at hcon;refine hcon.mono ?_;rintro e w' ⟨he,h1,h2,h3⟩;refine⟨he,?_,⟨Ds,h2,s2,s3,s4,s5⟩,h3⟩;obtain⟨es,rfl,hp,hk⟩:=s1.entries iKeyed;have hm:=d1.isMap;have hhas:∀ k,Maps.has (Lib.mergeD Dd (.map es)) k=(Maps.has Dd k || Maps.has (.map es) k):=fun k=>Maps.has_foldPut k es Dd hm hk
 refine aN h1 (YF d2 s2) ?_ ?_ ?_
 . intro x hx
   exact(mem_uniN.1 hx).elim (d3 x) (s3 x)
 . intro x
   rw[hhas,d4 x,s4 x];by_cases ha:x∈N
   . rw[AF ha,AF (mem_uniN.2 (AN ha))];rfl
   . by_cases hb:x∈M
     . rw[AF hb,AF (mem_uniN.2 (Ba hb)),Bool.or_true]
     . rw[AG ha,AG hb,AG (fun e=>(mem_uniN.1 e).elim ha hb)];rfl
 . intro x hx
   by_cases hb:x∈M
   . obtain⟨d,hd,ha⟩:=s5 x hb
     refine⟨d,by rw[AC hb];exact hd,fun z=>?_⟩;have Ha:=Maps.atKey_foldPut (.int Y x) z es Dd hm hk hp;have h0:(DataW.map es).atKey (.int Y x) z=d:=ha z;show(es.foldl (fun D p=>D.put p.1 p.2) Dd).atKey (.int Y x) z=d
     cases hf:es.find? (fun p=>p.1.sameKey (.int Y x)) with
     |none=>
      have hh:=s4 x;rw[AF hb,Maps.has_eq,List.any_eq_true] at hh;obtain⟨p,tW,sM⟩:=hh;have:=List.find?_eq_none.1 hf p tW;rw[sM] at this;exact absurd rfl this
     |some p=>
      rw[hf] at Ha;simp only[DataW.atKey,hf] at h0;rw[Ha];exact h0
   . have ha:=(mem_uniN.1 hx).resolve_right hb
     obtain⟨d,hd,hz⟩:=d5 x ha;refine⟨d,by rw[AE hb];exact hd,fun z=>?_⟩;have Ha:=Maps.atKey_foldPut (.int Y x) z es Dd hm hk hp;show(es.foldl (fun D p=>D.put p.1 p.2) Dd).atKey (.int Y x) z=d
     have hf:es.find? (fun p=>p.1.sameKey (.int Y x))=H:=List.find?_eq_none.2 fun p tW sM=>by
      have hh:=s4 x;rw[AG hb,Maps.has_eq] at hh;have:=List.any_eq_false.1 hh p tW;exact this sM
     rw[hf] at Ha;rw[Ha];exact hz z
theorem jF(b:Nat)(w:K):C V 165 #[.map (Z b)] w fun e w'=>e=Ag (.func (.func 192) #[] #[Am (Z ⟨w.heap.size,0,H⟩)])/\w'=w.alloc (Ar #[.map (Z b)] 70):=by
 have h:=(callsIn_wide (n:=5)).1 (AnyZI.keys_in pi Fence.wide 5 trivial rfl (Z b) w);exact h
theorem qi(m:Nat):AnyZI.SortsIn V Ps Fence.wide m:=
 ⟨fun blk off cap ss W hH hblk En=>callsIn_wide.2 (AnyM.slices_Sort_int pb blk off cap ss W hH hblk En),
  fun p cap W=>callsIn_wide.2 (AnyM.slices_Sort_int_none pb p cap W)⟩
theorem VW{w:K}{b p:Nat}{N:List Int}{g:Int->S}(h:Mp w b N g)(hp:w.heap[p]? =Z (Ar #[.map (Z b)] 70 (0,0)))(hN:N.length<=1000000):
 C V 164 #[.func (.func 192) #[] #[Am (Z ⟨p,0,H⟩)]] w fun e w'=>∃ v,e=Ag v/\IR w' w.heap.size v (BV N)/\At w.heap.size w w':=by
 obtain⟨D,d1,d2,d3,d4,d5⟩:=h;obtain⟨hperm,En⟩:=LZ d1 d2 d4;have hpl:p<w.heap.size:=(Al.1 hp).1;have hc:w.cell? ⟨p,0,H⟩=Z (.map (Z b)):=by rw[Az _ _ _ _ _ _ hp];rfl
 have hseq:SeqGives Fence.wide 2 V 192 #[Am (Z ⟨p,0,H⟩)] encZ (fun ss=>ss.Perm (intKeys D)) (Maps.size D) w:=
  AnyZI.keys_gives (ρ:=Tj) { pi with } Fence.wide _ trivial rfl (by omega) p b N.length D w hpl hc d1
 have cS:=AnyZI.sorted_in mC Fence.wide 5 trivial trivial trivial trivial rfl (by omega) (qi _) (enters_of Tryz.func191 (by kernel_rfl) rfl) 192 #[Am (Z ⟨p,0,H⟩)] trivial (enters_of Tryz.func192 (by kernel_rfl) rfl) _ _ (by rw[En];simp only[maxLen];omega) (by rw[En];omega) w hseq;change CallsIn _ _ V 164 _ _ _ at cS;refine(callsIn_wide.1 cS).mono ?_;rintro e w' ⟨v,ss,he,hS,hrow,rz,hb⟩;have e1:ss.mergeSort (fun x y=>decide (x<=y))=BV N:=mergeSort_of_perm_i (hS.trans hperm.symm);have e2:ss.length=(BV N).length:=by rw[Hw,hS.length_eq,hperm.length_eq]
 rw[e1,e2] at hrow;refine⟨v,he,?_,hb⟩;exact hrow
end
section
open Go.RowKit
structure Ext (P:Nat->Prop) (w w':K):Prop where
 os:w'.os=w.os
 tape:w'.tape=w.tape
 output:w'.output=w.output
 size:w.heap.size<=w'.heap.size
 keep:∀ k,k<w.heap.size->¬ P k->w'.heap[k]? =w.heap[k]?
def vm(P:Nat->Prop)(w w':K)(k:Nat):Prop:=P k\/(w.heap.size<=k/\k<w'.heap.size)
theorem Ext.trans{P P2:Nat->Prop}{a b c:K}(h:Ext P a b)(k:Ext P2 b c)(hp:∀ x,x<a.heap.size->P2 x->P x):Ext P a c:=
 ⟨k.os.trans h.os,k.tape.trans h.tape,k.output.trans h.output,AT h.size k.size,fun i hi hn=>(k.keep i (AH hi h.size) fun e=>hn (hp i hi e)).trans (h.keep i hi hn)⟩
theorem Ext.of_below{P:Nat->Prop}{w w':K}(h:At w.heap.size w w'):Ext P w w':=⟨h.os,h.tape,h.output,h.size,fun k hk _=>h.block k hk⟩
theorem Ext.of_chg{P Q Q':Nat->Prop}{w w':K}(h:Chg Q Q' w w')(hp:∀ x,Q x->P x):Ext P w w':=⟨h.os,h.tape,h.output,h.size,fun k hk hn=>(h.keep k hk fun e=>hn (hp k e)).1⟩
theorem Ext.of_grown{P:Nat->Prop}{w w':K}{b:Nat}(h:w.grownBy w' (Z b))(hp:P b):Ext P w w':=⟨h.os,h.tape,h.output,h.size,fun k hk hn=>h.block k hk fun e=>hn (by cases e;exact hp)⟩
theorem Ext.of_wrote{P:Nat->Prop}{w w':K}{b:Nat}(h:Wrote w w' b)(hp:P b):Ext P w w':=⟨h.1,h.2.1,h.2.2.1,Nat.le_of_eq h.2.2.2.1.symm,fun k _ hn=>h.2.2.2.2 k fun e=>hn (e ▸ hp)⟩
theorem Ext.chg{P:Nat->Prop}{w w':K}(h:Ext P w w'):Chg P (vm P w w') w w':=⟨h.os,h.tape,h.output,h.size,fun k hk hn=>⟨h.keep k hk hn,fun e=>e.elim hn fun e=>absurd e.1 (by omega)⟩⟩
theorem Ext.sub{P Q:Nat->Prop}{w w':K}(h:Ext P w w')(hp:∀ x,P x->Q x):Ext Q w w':=⟨h.os,h.tape,h.output,h.size,fun k hk hn=>h.keep k hk fun e=>hn (hp k e)⟩
theorem M9{P P':Nat->Prop}{w w':K}(h:Chg P P' w w'){k:Nat}(hk:P' k):P k\/w.heap.size<=k:=by
 by_cases hl:k<w.heap.size
 . by_cases hp:P k
   . exact AN hp
   . exact absurd hk (h.keep k hl hp).2
 . exact Ba (by omega)
theorem Dk.same{w w':K}{P:Nat->Prop}{p:S}{s:DS}(h:Dk w P p s)(hk:∀ k,P k->w'.heap[k]? =w.heap[k]?):Dk w' P p s:=by
 obtain⟨bp,bf,bv,u,hp,hd,hl,hP⟩:=h;refine⟨bp,bf,bv,u,hp,{ hd with hp:=?_,hf:=?_,hv:=?_,hu:=Fu hd.hu fun g hg=>hk g ((hP g).2 (Ba (Ba (Ba hg)))) },hl,hP⟩
 . rw[hk _ ((hP _).2 (AN rfl))];exact hd.hp
 . rw[hk _ ((hP _).2 (Ba (AN rfl)))];exact hd.hf
 . rw[hk _ ((hP _).2 (Ba (Ba (AN rfl))))];exact hd.hv
def Blo(w:K)(v:S)(l:List Int):Prop:=OB w 0 v l/\l.length=256
theorem Blo.row{w:K}{v:S}{l:List Int}(h:Blo w v l):∃ g cap cur,v=Ak (Z ⟨g,0,H⟩) 256 cap/\w.heap[g]? =Z (Ar cur 5 (0,0)):=by
 rcases h.1.2.2 with⟨_,h0⟩| ⟨g,cap,cur,hv,_,hh,_⟩
 . rw[h.2] at h0;cases h0
 . exact⟨g,cap,cur,by rw[hv,h.2],hh⟩
theorem Blo.hdr{w:K}{v:S}{l:List Int}(h:Blo w v l):∃ d,hdr v=Z (d,[]):=by
 obtain⟨g,cap,cur,rfl,_⟩:=h.row;exact⟨_,jv g 0 256 cap⟩
theorem Blo.keep{w w':K}{v:S}{l:List Int}(h:Blo w v l)(hk:∀ g,v.ownBlock=Z g->w'.heap[g]? =w.heap[g]?):Blo w' v l:=⟨⟨h.1.1,Fu h.1.2 hk⟩,h.2⟩
theorem Blo.lt{w:K}{v:S}{l:List Int}(h:Blo w v l){g:Nat}(hg:v.ownBlock=Z g):g<w.heap.size:=(Ck h.1.2 g hg).2
theorem Blo.at{w:K}{v:S}{l:List Int}(h:Blo w v l){g:Nat}(hg:v.ownBlock=Z g):∃ cur,w.heap[g]? =Z (Ar cur 5 (0,0)):=by
 obtain⟨g',cap,cur,rfl,hh⟩:=h.row;obtain rfl:g'=g:=by simpa [S.ownBlock] using hg
 exact⟨cur,hh⟩
def mP(Pd:Nat->Prop)(b be bp:Nat)(ek:List Int)(eg:Int->S)(pk:List Int)(pg:Int->S)(k:Nat):Prop:=
 Pd k\/k=b\/k=be\/k=bp\/(∃ x,x∈ek/\(eg x).ownBlock=Z k)\/∃ x,x∈pk/\(pg x).ownBlock=Z k
structure SMem (w:K) (Pd:Nat->Prop) (b be bp:Nat) (d:S) (q:Int) (ek:List Int) (eg:Int->S) (ev:Int->List Int) (pk:List Int) (pg:Int->S) (pv:Int->List Int) (wi:Bool) (ds:DS):Prop where
 hb:w.heap[b]? =Z (Ar #[d,J .u32 q,.map (Z be),.map (Z bp),A1 wi,A1 I] 72 (0,0))
 dk:Dk w Pd d ds
 q0:0<=q/\q<4294967296
 me:Mp w be ek eg
 mp:Mp w bp pk pg
 ne:be≠bp
 re:∀ x∈ek,Blo w (eg x) (ev x)
 rp:∀ x∈pk,Blo w (pg x) (pv x)
def sC(n:Nat)(x:Int):Prop:=0<=x/\x<n/\Ei x.toNat
structure SPl (X:XSt) (ek:List Int) (ev:Int->List Int) (pk:List Int) (pv:Int->List Int):Prop where
 ok:XOk X
 n64:64<=X.is.length/\X.is.length<=768
 u0:X.ds.U=[]
 ki:∀ x∈ek,sC X.is.length x
 kp:∀ x∈pk,sC X.is.length x
 el:ek.length<=37
 pl:pk.length<=37
 dt:X.dt=ek.length
 isx:∀ i,Ei i->i<X.is.length->X.is.getD i []=if (i:Int)∈ek then ev i else X.base.getD i []
 wi0:X.wi=I->pk=[]
 wi1:X.wi=A->X.put=pk/\X.call.length=X.is.length/\∀ i,Ei i->i<X.is.length->X.call.getD i []=if (i:Int)∈pk then pv i else X.is.getD i []
def SInv(w:K)(P:Nat->Prop)(d p:S)(X:XSt):Prop:=
 ∃ b be bp Pd q ek eg ev pk pg pv,p=Am (Z ⟨b,0,H⟩)/\SMem w Pd b be bp d q ek eg ev pk pg pv X.wi X.ds/\SPl X ek ev pk pv/\(∀ k,mP Pd b be bp ek eg pk pg k->P k)/\∀ k,P k->k<w.heap.size
def SDead(w:K)(P:Nat->Prop)(d p:S)(ds:DS):Prop:=
 ∃ b Pd,p=Am (Z ⟨b,0,H⟩)/\w.heap[b]? =Z (Ar #[Am H,J .u32 0,.map H,.map H,A1 I,A1 A] 72 (0,0))/\Dk w Pd d ds/\(∀ k,Pd k\/k=b->P k)/\∀ k,P k->k<w.heap.size
section
variable {w:K}{Pd:Nat->Prop}{b be bp:Nat}{d:S}{q:Int}{ek:List Int}{eg:Int->S}{ev:Int->List Int}{pk:List Int}{pg:Int->S}{pv:Int->List Int}{wi:Bool}{ds:DS}
theorem SMem.bl(h:SMem w Pd b be bp d q ek eg ev pk pg pv wi ds):b<w.heap.size:=(Al.1 h.hb).1
theorem SMem.lt(h:SMem w Pd b be bp d q ek eg ev pk pg pv wi ds)(k:Nat)(hk:mP Pd b be bp ek eg pk pg k):k<w.heap.size:=by
 rcases hk with hk|rfl|rfl|rfl| ⟨x,hx,hg⟩| ⟨x,hx,hg⟩
 . exact h.dk.lt k hk
 . exact h.bl
 . exact h.me.lt
 . exact h.mp.lt
 . exact(h.re x hx).lt hg
 . exact(h.rp x hx).lt hg
theorem SMem.same(h:SMem w Pd b be bp d q ek eg ev pk pg pv wi ds){w':K}(hk:∀ k,mP Pd b be bp ek eg pk pg k->w'.heap[k]? =w.heap[k]?):SMem w' Pd b be bp d q ek eg ev pk pg pv wi ds:=
 ⟨by rw[hk b (Ba (AN rfl))];exact h.hb,h.dk.same fun k hp=>hk k (AN hp),h.q0,h.me.keep (hk be (Ba (Ba (AN rfl)))),h.mp.keep (hk bp (Ba (Ba (Ba (AN rfl))))),h.ne,
   fun x hx=>(h.re x hx).keep fun g hg=>hk g (Ba (Ba (Ba (Ba (AN ⟨x,hx,hg⟩))))),fun x hx=>(h.rp x hx).keep fun g hg=>hk g (Ba (Ba (Ba (Ba (Ba ⟨x,hx,hg⟩)))))⟩
theorem SMem.below(h:SMem w Pd b be bp d q ek eg ev pk pg pv wi ds){w':K}(hb:At w.heap.size w w'):SMem w' Pd b be bp d q ek eg ev pk pg pv wi ds:=h.same fun k hk=>hb.block k (h.lt k hk)
theorem SMem.ci(h:SMem w Pd b be bp d q ek eg ev pk pg pv wi ds)(i:Nat):w.cell? ⟨b,i,H⟩=(#[d,J .u32 q,.map (Z be),.map (Z bp),A1 wi,A1 I]:Array S)[i]? :=Az _ _ _ _ _ _ h.hb
theorem SMem.fr(h:SMem w Pd b be bp d q ek eg ev pk pg pv wi ds)(i:Nat):w.frozen? ⟨b,i,H⟩=I:=by simp[K.frozen?,h.hb]
theorem SMem.c0(h:SMem w Pd b be bp d q ek eg ev pk pg pv wi ds):w.cell? ⟨b,0,H⟩=Z d:=h.ci 0
theorem SMem.c1(h:SMem w Pd b be bp d q ek eg ev pk pg pv wi ds):w.cell? ⟨b,1,H⟩=Z (J .u32 q):=h.ci 1
theorem SMem.c2(h:SMem w Pd b be bp d q ek eg ev pk pg pv wi ds):w.cell? ⟨b,2,H⟩=Z (.map (Z be)):=h.ci 2
theorem SMem.c3(h:SMem w Pd b be bp d q ek eg ev pk pg pv wi ds):w.cell? ⟨b,3,H⟩=Z (.map (Z bp)):=h.ci 3
theorem SMem.c4(h:SMem w Pd b be bp d q ek eg ev pk pg pv wi ds):w.cell? ⟨b,4,H⟩=Z (A1 wi):=h.ci 4
theorem SMem.c5(h:SMem w Pd b be bp d q ek eg ev pk pg pv wi ds):w.cell? ⟨b,5,H⟩=Z (A1 I):=h.ci 5
theorem SMem.nd(h:SMem w Pd b be bp d q ek eg ev pk pg pv wi ds):¬ Pd b:=h.dk.not h.hb (by decide) (by decide) (by decide)
theorem Y0{P:Nat->Prop}{p:S}{s:DS}(h:Dk w P p s){k:Nat}{es:Array MapEntry}{cl:Nat}(hk:w.heap[k]? =Z (.map es cl)):¬ P k:=fun hp=>by
 obtain⟨_,_,he,_⟩:=h.types k hp;rw[hk] at he;cases he
theorem Mp.nd{P:Nat->Prop}{p:S}{s:DS}{m:Nat}{N:List Int}{g:Int->S}(h:Dk w P p s)(hm:Mp w m N g):¬ P m:=by
 obtain⟨_,⟨es,cl,hh,_⟩,_⟩:=hm;exact Y0 h hh
theorem SMem.nb(h:SMem w Pd b be bp d q ek eg ev pk pg pv wi ds):be≠b/\bp≠b:=⟨h.me.not_cells h.hb,h.mp.not_cells h.hb⟩
theorem Blo.ne{v:S}{l:List Int}(hv:Blo w v l){g:Nat}(hg:v.ownBlock=Z g){k:Nat}{cs:Array S}{T:TypeId}{z:Nat × Nat}(hk:w.heap[k]? =Z (Ar cs T z))(hT:T≠5):g≠k:=fun e=>by
 obtain⟨cur,hh⟩:=hv.at hg;rw[e,hk] at hh
 injection hh with hh
 injection hh with _ e2
 exact hT e2
theorem Blo.nm{v:S}{l:List Int}(hv:Blo w v l){g:Nat}(hg:v.ownBlock=Z g){m:Nat}{N:List Int}{gg:Int->S}(hm:Mp w m N gg):g≠m:=fun e=>by
 obtain⟨cur,hh⟩:=hv.at hg;exact hm.not_cells hh e.symm
theorem Blo.nd{v:S}{l:List Int}(hv:Blo w v l){g:Nat}(hg:v.ownBlock=Z g){P:Nat->Prop}{p:S}{s:DS}(h:Dk w P p s):¬ P g:=by
 obtain⟨cur,hh⟩:=hv.at hg;exact h.not hh (by decide) (by decide) (by decide)
theorem SMem.disk(h:SMem w Pd b be bp d q ek eg ev pk pg pv wi ds){w':K}{Pd':Nat->Prop}{ds':DS}(hd:Dk w' Pd' d ds')(hc:Chg Pd Pd' w w'):SMem w' Pd' b be bp d q ek eg ev pk pg pv wi ds':=
 ⟨by rw[(hc.keep b h.bl h.nd).1];exact h.hb,hd,h.q0,h.me.keep (hc.keep be h.me.lt (Mp.nd h.dk h.me)).1,h.mp.keep (hc.keep bp h.mp.lt (Mp.nd h.dk h.mp)).1,h.ne,
   fun x hx=>(h.re x hx).keep fun g hg=>(hc.keep g ((h.re x hx).lt hg) ((h.re x hx).nd hg h.dk)).1,fun x hx=>(h.rp x hx).keep fun g hg=>(hc.keep g ((h.rp x hx).lt hg) ((h.rp x hx).nd hg h.dk)).1⟩
end
theorem SInv.keep{w w':K}{P:Nat->Prop}{d p:S}{X:XSt}(h:SInv w P d p X)(hs:w.heap.size<=w'.heap.size)(hk:∀ k,P k->w'.heap[k]? =w.heap[k]?):SInv w' P d p X:=by
 obtain⟨b,be,bp,Pd,q,ek,eg,ev,pk,pg,pv,hp,hm,hpl,ho,hl⟩:=h;exact⟨b,be,bp,Pd,q,ek,eg,ev,pk,pg,pv,hp,hm.same fun k h=>hk k (ho k h),hpl,ho,fun k h=>AH (hl k h) hs⟩
theorem SDead.keep{w w':K}{P:Nat->Prop}{d p:S}{ds:DS}(h:SDead w P d p ds)(hs:w.heap.size<=w'.heap.size)(hk:∀ k,P k->w'.heap[k]? =w.heap[k]?):SDead w' P d p ds:=by
 obtain⟨b,Pd,hp,hb,hd,ho,hl⟩:=h;exact⟨b,Pd,hp,by rw[hk b (ho b (Ba rfl))];exact hb,hd.same fun k h=>hk k (ho k (AN h)),ho,fun k h=>AH (hl k h) hs⟩
theorem NC(w:K)(n:Int):C V 127 #[.int Y n] w fun e w'=>e=Ag (.bool (decide (n<768)))/\w=w':=by
 go_enter Tryz.func127,Tryz.ntmps127;go_wp2;go_ret;trivial
section
variable {w:K}{Pd:Nat->Prop}{b be bp:Nat}{d:S}{q:Int}{ek:List Int}{eg:Int->S}{ev:Int->List Int}{pk:List Int}{pg:Int->S}{pv:Int->List Int}{wi:Bool}{ds:DS}
theorem MM(h:SMem w Pd b be bp d q ek eg ev pk pg pv wi ds):C V 66 #[Am (Z ⟨b,0,H⟩)] w fun e w'=>e=Ag (.int Y 0)/\w=w':=by
 have c5:=h.c5;clear h;go_enter Tryz.func66,Tryz.ntmps66;go_wp2;go_ret;exact⟨rfl,rfl⟩
theorem Fo(h:SMem w Pd b be bp d q ek eg ev pk pg pv wi ds)(x:Bool):C V 29 #[Am (Z ⟨b,0,H⟩),.bool x] w fun e w'=>e=Ag (.int Y (if wi=x then 0 else 17))/\w=w':=by
 have KU:=vJ (MM h);have c4:=h.c4;clear h;go_enter Tryz.func29,Tryz.ntmps29;go_wp2_with (go_at_call 66;refine KU.out.mono ?_;rintro e w' ⟨rfl,rfl⟩)
 all_goals (cases wi <;> cases x <;> simp_all <;> go_ret <;> exact⟨rfl,rfl⟩)
theorem Qn(h:SMem w Pd b be bp d q ek eg ev pk pg pv wi ds)(n:Int):C V 126 #[Am (Z ⟨b,0,H⟩),.int Y n] w fun e w'=>e=Ag (.bool (decide (0<=n/\n<ds.F.length)))/\w=w':=by
 have KB:=vJ (Uw h.dk);have c0:=h.c0;clear h;by_cases h0:0<=n
 . have e1:decide (0<=n/\n<ds.F.length)=decide (n<ds.F.length):=by simp[h0]
   rw[e1];go_enter Tryz.func126,Tryz.ntmps126;go_wp2_with (go_at_call 173;refine KB.out.mono ?_;rintro e w' ⟨rfl,rfl⟩)
   go_ret;exact⟨rfl,rfl⟩
 . have e1:decide (0<=n/\n<ds.F.length)=I:=by simp[h0]
   rw[e1];go_enter Tryz.func126,Tryz.ntmps126;go_wp2_with (go_at_call 173;refine KB.out.mono ?_;rintro e w' ⟨rfl,rfl⟩)
   go_ret;exact⟨rfl,rfl⟩
theorem WS(h:SMem w Pd b be bp d q ek eg ev pk pg pv wi ds){n:Int}(hn:(Lit.int Y n).wf=A):C V 138 #[Am (Z ⟨b,0,H⟩),.int Y n] w fun e w'=>
 e=Ag (AO #[if n∈pk then pg n else if n∈ek then eg n else Ak H 0 0,.bool (decide (n∈pk) || decide (n∈ek))])/\w=w':=by
 have c2:=h.c2;have c3:=h.c3;have le:=h.me.look_ok hn;have lp:=h.mp.look_ok hn;clear h;obtain⟨x,hx⟩:=nm ((if n∈ek then eg n else Ak H 0 0));obtain⟨y,hy⟩:=nm ((if n∈pk then pg n else Ak H 0 0));obtain⟨xb,hxb⟩:=nm (decide (n∈ek));rw[<- hx,<- hxb] at le;rw[<- hy] at lp;by_cases hp:n∈pk
 . rw[AC hp] at hy |-
   rw[AF hp] at lp |-
   rw[<- hy];clear hp hx hxb hy le;go_enter Tryz.func138,Tryz.ntmps138;go_wp2;go_ret2;exact⟨rfl,rfl⟩
 . rw[AE hp]
   rw[AG hp] at lp |-
   rw[<- hx,<- hxb];clear hp hx hxb hy;go_enter Tryz.func138,Tryz.ntmps138;go_wp2;go_ret2;exact⟨rfl,rfl⟩
end
theorem qp:(V.info? 72).map (·.size)=Z 6:=by kernel_rfl
theorem PV{ops:Array BS}{rest:List BS}{o:BS}{a:Act}{w:K}{Q:Exit->Act->K->Prop}(Dn:o.guard=H)(x y:Operand)(ho:o.op=.store 72 x y)
 (g:Nat) (hx:a.eval x=Am (Z ⟨g,0,H⟩)) (c0 c1 c2 c3 c4 c5 d0 d1 d2 d3 d4 d5:S) (hy:a.eval y=BD #[d0,d1,d2,d3,d4,d5]) (h0:d0.oneCell'=A) (h1:d1.oneCell'=A) (h2:d2.oneCell'=A) (h3:d3.oneCell'=A) (h4:d4.oneCell'=A) (h5:d5.oneCell'=A)
 (hg:w.heap[g]? =Z (Ar #[c0,c1,c2,c3,c4,c5] 72 (0,0)))
 (h:∀ w',Wrote w w' g->w'.heap[g]? =Z (Ar #[d0,d1,d2,d3,d4,d5] 72 (0,0))->Cn V ops Q rest (a.put o.dst undef) w'):Cn V ops Q (o :: rest) a w:=
 Do Dn 72 x y ho g #[d0,d1,d2,d3,d4,d5] hx hy 72 _ hg qp rfl (by simp[h0,h1,h2,h3,h4,h5]) (h _ (Wrote.setRow _ _ _) (Cr _ _ _ _ _ _ hg))
theorem oA(p:S)(w:K)(e:Int)(he:e≠2):C V 116 #[p,.int Y e] w fun e' w'=>e'=Ag (.int Y e)/\w=w':=by
 go_enter Tryz.func116,Tryz.ntmps116;go_wp2;go_ret;exact⟨rfl,rfl⟩
section
variable {w:K}{Pd:Nat->Prop}{b be bp:Nat}{d:S}{q:Int}{ek:List Int}{eg:Int->S}{ev:Int->List Int}{pk:List Int}{pg:Int->S}{pv:Int->List Int}{wi:Bool}{ds:DS}
theorem mu(h:SMem w Pd b be bp d q ek eg ev pk pg pv wi ds):C V 116 #[Am (Z ⟨b,0,H⟩),.int Y 2] w fun e w'=>e=Ag (.int Y 2)/\Wrote w w' b/\w'.heap[b]? =Z (Ar #[Am H,.int .u32 0,.map H,.map H,.bool I,.bool A] 72 (0,0)):=by
 have hb:=h.hb;clear h;go_enter Tryz.func116,Tryz.ntmps116;go_wp2_with (refine PV rfl _ _ (by rfl) b (by rfl) _ _ _ _ _ _ _ _ _ _ _ _ (by rfl) rfl rfl rfl rfl rfl rfl hb ?_;intro w2 GN hb2)
 go_ret;exact⟨rfl,GN,hb2⟩
end
theorem SMem.setwi{w w':K}{Pd:Nat->Prop}{b be bp:Nat}{d:S}{q:Int}{ek:List Int}{eg:Int->S}{ev:Int->List Int}{pk:List Int}{pg:Int->S}{pv:Int->List Int}{wi wi':Bool}{ds:DS}(h:SMem w Pd b be bp d q ek eg ev pk pg pv wi ds)
 (hw:Wrote w w' b) (hb:w'.heap[b]? =Z (Ar #[d,.int .u32 q,.map (Z be),.map (Z bp),.bool wi',.bool I] 72 (0,0))):SMem w' Pd b be bp d q ek eg ev pk pg pv wi' ds:=
 ⟨hb,h.dk.same fun k hk=>hw.2.2.2.2 k fun e=>h.nd (e ▸ hk),h.q0,h.me.keep (hw.2.2.2.2 be h.nb.1),h.mp.keep (hw.2.2.2.2 bp h.nb.2),h.ne,
   fun x hx=>(h.re x hx).keep fun g hg=>hw.2.2.2.2 g ((h.re x hx).ne hg h.hb (by decide)),fun x hx=>(h.rp x hx).keep fun g hg=>hw.2.2.2.2 g ((h.rp x hx).ne hg h.hb (by decide))⟩
theorem UL{w:K}{b:Nat}{c0 c1 c2 c3 c4 c5:S}{T:TypeId}(h:w.heap[b]? =Z (Ar #[c0,c1,c2,c3,c4,c5] T (0,0)))(x:S):(w.setCell ⟨b,4,H⟩ x).heap[b]? =Z (Ar #[c0,c1,c2,c3,x,c5] T (0,0)):=by
 rw[Bs w b 4 _ _ x h];rfl
section
variable {w:K}{P:Nat->Prop}{d p:S}{X:XSt}
theorem fH(h:SInv w P d p X):C V 9 #[p] w (PJ SInv w P d p (QI X)):=by
 obtain⟨b,be,bp,Pd,q,ek,eg,ev,pk,pg,pv,rfl,hm,hpl,ho,hl⟩:=h;unfold QI PJ;cases hw:X.wi
 . have KA:=vJ (Fo hm I)
   rw[hw] at KA;have HB:=vJ hm.hb;have c4:=hm.c4;have f4:=hm.fr 4;rw[hw] at c4;refine C.mono (R:=fun e w'=>e=Ag (.int Y 0)/\w'=w.setCell ⟨b,4,H⟩ (.bool A)) ?_ ?_
   . clear hm hpl ho hl hw HB
     go_enter Tryz.func9,Tryz.ntmps9;go_wp2_with (go_at_call 29;refine KA.out.mono ?_;rintro e w' ⟨rfl,rfl⟩)
     go_ret;exact⟨rfl,rfl⟩
   . rintro e w' ⟨rfl,rfl⟩
     have hwr:=Wrote.setCell w b 4 (.bool A);have hm':=hm.setwi (wi':=A) hwr (UL HB.out _);refine⟨rfl,P,⟨b,be,bp,Pd,q,ek,eg,ev,pk,pg,pv,rfl,hm',?_,ho,fun k hk=>by rw[hwr.2.2.2.1];exact hl k hk⟩,?_⟩
     . have hp0:=hpl.wi0 hw
       refine { hpl with ok:={ hpl.ok with call:=fun _=>rfl },wi0:=fun e=>(by cases e),wi1:=fun _=>⟨hp0.symm,rfl,fun i _ _=>?_⟩ };rw[hp0,AE BI];rfl
     . exact⟨hwr.1,hwr.2.1,hwr.2.2.1,Nat.le_of_eq hwr.2.2.2.1.symm,fun k _ hn=>⟨hwr.2.2.2.2 k fun e=>hn (e ▸ ho b (Ba (AN rfl))),hn⟩⟩
 . have KA:=vJ (Fo hm I)
   rw[hw] at KA;refine C.mono (R:=fun e w'=>e=Ag (.int Y 17)/\w=w') ?_ ?_
   . clear hm hpl ho hl hw
     go_enter Tryz.func9,Tryz.ntmps9;go_wp2_with (go_at_call 29;refine KA.out.mono ?_;rintro e w' ⟨rfl,rfl⟩)
     go_ret;exact⟨rfl,rfl⟩
   . rintro e w' ⟨rfl,rfl⟩
     exact⟨rfl,P,⟨b,be,bp,Pd,q,ek,eg,ev,pk,pg,pv,rfl,hm,hpl,ho,hl⟩,Chg.refl _ _⟩
theorem kV(h:SInv w P d p X){n:Int}(hn:n<0\/(X.is.length:Int)<=n):C V 89 #[p,.int Y n] w fun e w'=>e=Ag (AO #[Ak H 0 0,.int Y 1])/\∃ P',SInv w' P' d p X/\Chg P P' w w':=by
 have h':=h;obtain⟨b,be,bp,Pd,q,ek,eg,ev,pk,pg,pv,rfl,hm,hpl,ho,hl⟩:=h;have KU:=vJ (MM hm);have KH:=vJ (Qn hm n);rw[AG (by have:=hpl.ok.lst.1;omega)] at KH;refine C.mono (R:=fun e w'=>e=Ag (AO #[Ak H 0 0,.int Y 1])/\w=w') ?_ ?_
 . clear hm hpl ho hl hn h'
   go_enter Tryz.func89,Tryz.ntmps89
   go_wp2_with (first
    |(go_at_call 66;refine KU.out.mono ?_;rintro e w' ⟨rfl,rfl⟩)
    |(go_at_call 126;refine KH.out.mono ?_;rintro e w' ⟨rfl,rfl⟩))
   go_ret2;exact⟨rfl,rfl⟩
 . rintro e w' ⟨rfl,rfl⟩
   exact⟨rfl,P,h',Chg.refl _ _⟩
theorem Xo(h:SInv w P d p X){n:Nat}(hn:n<X.is.length):C V 89 #[p,.int Y n] w fun e w'=>∃ v l,e=Ag (AO #[v,.int Y 0])/\(∃ g cap T rest,Rw w' w.heap.size v l g cap T rest)/\(Ei n->l=(if X.wi=A then X.call else X.is).getD n [])/\At w.heap.size w w':=by
 have h':=h;obtain⟨b,be,bp,Pd,q,ek,eg,ev,pk,pg,pv,rfl,hm,hpl,ho,hl⟩:=h;have Vv:=hpl.ok.lst.1;have Mk:=hpl.n64.2;have Vw:(Lit.int Y (n:Int)).wf=A:=iN (by omega);have KU:=vJ (MM hm);have KH:=vJ (Qn hm n);have KC:=vJ (WS hm Vw);rw[AF (by omega)] at KH;have JH:Ei n->(if X.wi=A then X.call else X.is).getD n []=if (n:Int)∈pk then pv n else if (n:Int)∈ek then ev n else X.base.getD n []:=fun ho=>by
  have h1:=hpl.isx n ho hn;cases hw:X.wi
  . have h0:=hpl.wi0 hw
    rw[AE (by decide),h1,h0,AE BI]
  . obtain⟨_,_,h2⟩:=hpl.wi1 hw
    rw[AC rfl,h2 n ho hn,h1]
 by_cases hin:(n:Int)∈pk\/(n:Int)∈ek
 . obtain⟨v,hv⟩:=nm ((if (n:Int)∈pk then pg n else if (n:Int)∈ek then eg n else Ak H 0 0))
   obtain⟨l,hl'⟩:=nm ((if (n:Int)∈pk then pv n else if (n:Int)∈ek then ev n else X.base.getD n []));have hblo:Blo w v l:=by
    rw[hv,hl'];by_cases hp:(n:Int)∈pk
    . rw[AC hp,AC hp];exact hm.rp _ hp
    . rw[AE hp,AE hp,AC (hin.resolve_left hp),AC (hin.resolve_left hp)];exact hm.re _ (hin.resolve_left hp)
   have hd:(decide ((n:Int)∈pk) || decide ((n:Int)∈ek))=A:=by simpa using hin
   rw[<- hv,hd] at KC;have KB:=vJ (OS hblo.1.bsl (by rw[hblo.2];decide));refine C.mono (R:=fun e w'=>∃ v',e=Ag (AO #[v',.int Y 0])/\OB w' w.heap.size v' l/\At w.heap.size w w') ?_ ?_
   . clear hm hpl ho hl h' JH hin hv hl' hblo hd Vw Vv Mk hn
     go_enter Tryz.func89,Tryz.ntmps89
     go_wp2_with (first
      |(go_at_call 66;refine KU.out.mono ?_;rintro e w' ⟨rfl,rfl⟩)
      |(go_at_call 126;refine KH.out.mono ?_;rintro e w' ⟨rfl,rfl⟩)
      |(go_at_call 138;refine KC.out.mono ?_;rintro e w' ⟨rfl,rfl⟩)
      |(go_at_call 128;refine KB.out.mono ?_;rintro e w' ⟨v',rfl,hob,hbe⟩))
     go_ret2;exact⟨v',rfl,hob,hbe⟩
   . rintro e w' ⟨v',rfl,hob,hbe⟩
     exact⟨v',l,rfl,hob.rw' hblo.2,fun ho=>by rw[JH ho,hl'],hbe⟩
 . have hd:(decide ((n:Int)∈pk) || decide ((n:Int)∈ek))=I:=by simpa using hin
   rw[hd] at KC;have hnp:(n:Int) ∉ pk:=fun e=>hin (AN e)
   have hne:(n:Int) ∉ ek:=fun e=>hin (Ba e)
   rw[AE hnp,AE hne] at KC;have KR:=vJ (je hm.dk n (by omega) hpl.ok.pow);have KM:=vJ (fun(W:K)=>oA (Am (Z ⟨b,0,H⟩)) W 0 (by decide));have c0:=hm.c0;refine C.mono (R:=fun e w'=>∃ v',e=Ag (AO #[v',.int Y 0])/\(∃ g cap T rest,Rw w' w.heap.size v' (X.ds.vis.getD n []) g cap T rest)/\At w.heap.size w w') ?_ ?_
   . clear hm hpl ho hl h' JH hin hd Vw Vv Mk hn hnp hne
     go_enter Tryz.func89,Tryz.ntmps89
     go_wp2_with (first
      |(go_at_call 66;refine KU.out.mono ?_;rintro e w' ⟨rfl,rfl⟩)
      |(go_at_call 126;refine KH.out.mono ?_;rintro e w' ⟨rfl,rfl⟩)
      |(go_at_call 138;refine KC.out.mono ?_;rintro e w' ⟨rfl,rfl⟩)
      |(go_at_call 139;refine KR.out.mono ?_;rintro e w' ⟨v',rfl,hbs,hbe⟩)
      |(go_at_call 116;refine(KM.out _).mono ?_;rintro e w'' ⟨rfl,rfl⟩))
     go_ret2;exact⟨_,rfl,⟨_,_,_,_,hbs⟩,hbe⟩
   . rintro e w' ⟨v',rfl,hbs,hbe⟩
     refine⟨v',_,rfl,hbs,fun ho=>?_,hbe⟩;rw[JH ho,AE hnp,AE hne];have hg:=hpl.ok.lst.glen;exact hpl.ok.lst.2.1.2 n ho (by omega)
theorem N0(h:SInv w P d p X){n:Nat}(hn:n<X.is.length):C V 89 #[p,.int Y n] w fun e w'=>∃ v l,e=Ag (AO #[v,.int Y 0])/\BSl w' v l/\(Ei n->l=(if X.wi=A then X.call else X.is).getD n [])/\At w.heap.size w w':=
 (Xo h hn).mono fun e w' ⟨v,l,he,⟨_,_,_,_,hr⟩,hj,hb⟩=>⟨v,l,he,hr.bsl,hj,hb⟩
theorem nN(h:SInv w P d p X){n:Nat}(hn:n<X.is.length):C V 89 #[p,.int Y n] w fun e w'=>∃ v l,e=Ag (AO #[v,.int Y 0])/\BSl w' v l/\(Ei n->l=(if X.wi=A then X.call else X.is).getD n [])/\∃ P',SInv w' P' d p X/\Chg P P' w w':=by
 have hl:=h;obtain⟨b,be,bp,Pd,q,ek,eg,ev,pk,pg,pv,rfl,hm,hpl,ho,hl'⟩:=hl;exact(N0 h hn).mono fun e w' ⟨v,l,he,hb,hj,hbe⟩=>⟨v,l,he,hb,hj,P,h.keep hbe.size fun k hk=>hbe.block k (hl' k hk),Chg.of_below hbe⟩
end
end
section
open Go.RowKit BM
theorem eV{w:K}{v:S}{O:List (Int × Int)}(hs:OwSl w v O)(hO:O.length=64){g:Nat}(hg:g<12)(hx:∀ j,j<64->decide ((O.getD j (0,0)).1=65535)=CJ (64*(g:Int)+j)):
 C V 244 #[J Y g,v] w fun e w'=>e=Ag (A1 A)/\At w.heap.size w w':=by
 obtain⟨b,off,cap,rfl,hb,hc⟩:=hs.at (by omega);have HC:=vJ hc;have HBB:=vJ hs.1;have HX:=vJ hx;have HO:=vJ hO;rw[hO];clear hc hs hx hO;go_enter Tryz.func244,Tryz.ntmps244;go_wp2;go_loopw [9] (fun i wr=>∃ k:Nat,k<=64/\i=J Y k/\At w.heap.size w wr) (fun i _=>64-(intOf i).toNat)
 case atStart=>exact⟨0,by omega,rfl,AM _ _⟩
 case round=>
  obtain⟨k,hk,rfl,hbr⟩:=hrel;by_cases hlt:k<64
  . have hck:=HC.out k (by rw[HO.out];exact hlt)
    have hxk:=HX.out k hlt;have hbd:=HBB.out k;obtain⟨x,hx⟩:=nm ((O.getD k (0,0)).1);obtain⟨y,hy⟩:=nm ((O.getD k (0,0)).2);rw[<- hx,<- hy] at hck hbd;rw[<- hx] at hxk;have c1:=(hbr.cell (p:=⟨b,off+k*2,H⟩) hb).trans hck.1;have c2:=(hbr.cell (p:=⟨b,off+k*2+1,H⟩) hb).trans hck.2;have ek:(k:Int)<64:=(by omega);have eg:(g:Int)<12:=(by omega);have HB2:=vJ (hbr.trans ((Ay wr (Ar #[J .u16 x,J .u16 y] 165)).mono hbr.size));obtain⟨F,hF⟩:=nm (CJ (64*(g:Int)+k));rw[<- hF] at hxk;have eF:CJ ((g:Int)*64+k)=F:=(by rw[hF,Int.mul_comm]);have K1:=vJ (LW ((g:Int)*64+k) (by omega) F eF);have hxb:(x==65535)=F:=hxk;clear hx hy hck hF eF hxk;go_wp2;cases F
    all_goals
     go_quiet ((go_at_call 217;exact Ce (K1.out _)))
     go_wp2;go_roundw
     case rel=>exact⟨k+1,by omega,by go_num,A2 HB2.out _⟩
     case measure=>simp[intOf];omega
  . go_wp2
    go_ret;exact⟨rfl,hbr⟩
def XSt.cur(X:XSt):List (List Int):=if X.wi=A then X.call else X.is
theorem XOk.curLen{X:XSt}(h:XOk X):X.cur.length=X.is.length:=by
 unfold XSt.cur;split
 . next hw=>exact h.call hw
 . rfl
theorem jw{O:List (Int × Int)}(hO:O.length=64)(hB:OwB O)(ha:F5 O=A):Yp (D3 O)/\Nn (D3 O) 64=O:=by
 have e:=eK hB hO;refine⟨⟨JQ hO,?_⟩,e⟩;rw[e];unfold F5 at ha;rw[hO] at ha
 simpa using ha
theorem gW{w:K}{P:Nat->Prop}{d p:S}{X:XSt}{O:List (Int × Int)}{k g:Nat}(h:SInv w P d p X)(hH:Has X.cur O k)(hO:OOk O k)(hg:g<k):
 C V 218 #[p,J Y g] w fun e w'=>∃ v,e=Ag (AO #[v,J Y 0])/\OwR w' w.heap.size v (Fa O g)/\At w.heap.size w w':=by
 have hlen:X.is.length=64*k:=by
  obtain⟨_,_,_,_,_,_,_,_,_,_,_,_,_,hpl,_⟩:=h;rw[<- hpl.ok.curLen];exact hH.len
 have hlt:∀ k,P k->k<w.heap.size:=by
  obtain⟨_,_,_,_,_,_,_,_,_,_,_,_,_,_,_,hl⟩:=h;exact hl
 have h12:=hO.k12;have hin:=JL hg;obtain⟨gB,gA,gX⟩:=hO.gr hg;have gL:=FZ hO.len hg;obtain⟨Og,rA⟩:=nm (Fa O g);obtain⟨D,hD⟩:=nm (GI (g:Int) (CQ Og 64));obtain⟨E,hE⟩:=nm (D3 Og);have eD:X.cur.getD (Ci g) []=D:=by rw[hH.ds g hg,hD,rA]
 have eE:X.cur.getD (Ci g+1) []=E:=by rw[hH.ow g hg,hE,rA]
 rw[<- rA] at gB gA gX gL |-
 obtain⟨pB,pE⟩:=jw gL gB gA;rw[<- hE] at pB pE;have KD:Hid (∀ W:K,At w.heap.size w W->C V 89 #[p,J Y (Ci g:Nat)] W fun e w'=>∃ v,e=Ag (AO #[v,J Y 0])/\BSl w' v D/\At W.heap.size W w'):=vJ fun W hb=>(N0 (h.keep hb.size fun i hi=>hb.block i (hlt i hi)) (n:=Ci g) (by omega)).mono fun e w' ⟨v,l,a,b,c,f⟩=>⟨v,a,by rw[<- eD];exact(c hin.2.1) ▸ b,f⟩
 have KE:Hid (∀ W:K,At w.heap.size w W->C V 89 #[p,J Y (((Ci g:Nat):Int)+1)] W fun e w'=>∃ v,e=Ag (AO #[v,J Y 0])/\BSl w' v E/\At W.heap.size W w'):=vJ fun W hb=>(N0 (h.keep hb.size fun i hi=>hb.block i (hlt i hi)) (n:=Ci g+1) (by omega)).mono fun e w' ⟨v,l,a,b,c,f⟩=>⟨v,a,by rw[<- eE];exact(c hin.2.2) ▸ b,f⟩
 have KO:Hid (∀ (W:K) (v:S),BSl W v E->C V 243 #[v] W fun e w'=>∃ u,e=Ag (AO #[u,J Y 0])/\OwR w' W.heap.size u Og/\At W.heap.size W w'):=vJ fun W v hb=>(fZ hb).mono fun e w' ho=>by
  rcases ho with⟨_,u,a,b,c⟩| ⟨hn,_⟩
  . exact⟨u,a,pE ▸ b,c⟩
  . exact absurd pB hn
 have KL:=vJ (fun(W:K) (v:S) (hs:OwSl W v Og)=>eV hs gL (show g<12 by omega) gX);have KC:Hid (∀ (W:K) (v:S),OwSl W v Og->C V 245 #[J Y g,v] W fun e w'=>∃ u,e=Ag (AO #[u,J Y 0])/\OB w' W.heap.size u D/\At W.heap.size W w'):=vJ fun W v hs=>(TJ hs (g:Int) (by omega) (by omega) gA).mono fun e w' ho=>by rw[hD];exact ho
 have KEq:Hid (∀ (W:K) (u v:S),BSl W u D->BSl W v D->C V 156 #[u,v] W fun e w'=>e=Ag (A1 A)/\W=w'):=vJ fun W u v hu hv=>(EC hu hv).mono fun e w' ho=>by rw[AF rfl] at ho;exact ho
 have KGd:=vJ (fun(W:K)=>Ma (g:Int) W);have KGo:=vJ (fun(W:K)=>Kz (g:Int) W);rw[UF (show g<12 by omega)] at KGd;rw[Yw (show g<12 by omega)] at KGo;clear h hH hO eD eE hD hE rA gB gA gX gL pB pE hin hlt hlen h12 hg;go_enter Tryz.func218,Tryz.ntmps218
 go_wp2_with (first
  |(go_at_call 239;refine(KGd.out _).mono ?_;rintro e w' ⟨rfl,rfl⟩)
  |(go_at_call 240;refine(KGo.out _).mono ?_;rintro e w' ⟨rfl,rfl⟩)
  |(go_at_call 89;(with_reducible refine(KD.out _ (AM _ _)).mono ?_);rintro e w1 ⟨vd,rfl,hvd,hb1⟩)
  |(go_at_call 89;(with_reducible refine(KE.out _ hb1).mono ?_);rintro e w2 ⟨vp,rfl,hvp,hb2⟩;have hvd2:=hvd.below hb2;have hb02:=hb1.trans (hb2.mono hb1.size))
  |(go_at_call 243;refine(KO.out _ _ hvp).mono ?_;rintro e w3 ⟨u,rfl,hu,hb3⟩;have hvd3:=hvd2.below hb3;have hb03:=hb02.trans (hb3.mono hb02.size))
  |(go_at_call 244;refine(KL.out _ _ hu.sl).mono ?_;rintro e w4 ⟨rfl,hb4⟩;have hvd4:=hvd3.below hb4;have hu4:=hu.below hb4;have hb04:=hb03.trans (hb4.mono hb03.size))
  |(go_at_call 245;refine(KC.out _ _ hu4.sl).mono ?_;rintro e w5 ⟨vw,rfl,hvw,hb5⟩;have hvd5:=hvd4.below hb5;have hu5:=hu4.below hb5;have ig:=hb04.trans (hb5.mono hb04.size))
  |(go_at_call 156;refine(KEq.out _ _ _ hvd5 hvw.bsl).mono ?_;rintro e w6 ⟨rfl,rfl⟩))
 go_ret2;exact⟨u,rfl,hu5.more hb02.size,ig⟩
def Mf(f:Nat->Bool)(c L:Nat):List Bool:=(Co L).map fun i=>if i<c then f i else I
theorem Pv(f:Nat->Bool)(c L:Nat):(Mf f c L).length=L:=by simp[Mf]
theorem k8(f:Nat->Bool)(c L:Nat):(Mf f c L).set c (f c)=Mf f (c+1) L:=by
 apply Bi (by simp[Mf]);intro i h1 h2;simp only[Mf,Cz,Ct,Cg];by_cases e:c=i
 . subst e;rw[AC rfl,AC (by omega)]
 . rw[AE e]
   by_cases h:i<c
   . rw[AC h,AC (by omega)]
   . rw[AE h,AE (by omega)]
theorem dq(f:Nat->Bool)(L:Nat):Mf f 0 L=AD L I:=by
 rw[List.eq_replicate_iff];refine⟨Pv f 0 L,fun b hb=>?_⟩;obtain⟨i,_,rfl⟩:=Cq.1 hb;rw[AE (by omega)]
theorem dY(O:List (Int × Int))(L:Nat):Mf (E8 O) L L=CQ O L:=by
 unfold Mf CQ;apply CN;intro i hi;rw[AC (Bo.1 hi)]
section
variable {w:K}{P:Nat->Prop}{d p:S}{X:XSt}{O:List (Int × Int)}{k:Nat}
theorem SInv.lt(h:SInv w P d p X):∀ k,P k->k<w.heap.size:=by
 obtain⟨_,_,_,_,_,_,_,_,_,_,_,_,_,_,_,hl⟩:=h;exact hl
theorem SInv.low(h:SInv w P d p X){W:K}(hb:At w.heap.size w W):SInv W P d p X:=h.keep hb.size fun i hi=>hb.block i (h.lt i hi)
theorem Oz{g:Nat}(h:SInv w P d p X)(hH:Has X.cur O k)(hO:OOk O k)(hg:g<k):
 C V 218 #[p,J Y g] w fun e w'=>∃ b cap,e=Ag (AO #[Ak (Z ⟨b,0,H⟩) 64 cap,J Y 0])/\w.heap.size<=b/\b<w'.heap.size/\OwR w' w.heap.size (Ak (Z ⟨b,0,H⟩) 64 cap) (Fa O g)/\
  (∀ j,j<64->w'.cell? ⟨b,j*2,H⟩=Z (J .u16 ((Fa O g).getD j (0,0)).1)/\w'.cell? ⟨b,j*2+1,H⟩=Z (J .u16 ((Fa O g).getD j (0,0)).2))/\At w.heap.size w w':=by
 refine(gW h hH hO hg).mono fun e w' ⟨v,he,hv,hb⟩=>?_
 have hl:=FZ hO.len hg;obtain⟨b,cap,rfl⟩:=qQ hv 64 hl (by decide);obtain⟨b',off,cap',e1,hbl,hc⟩:=hv.sl.at (by omega)
 injection e1 with e1 _ _
 injection e1 with e1
 injection e1 with e1 e2
 subst e1;subst e2;exact⟨b,cap,he,(Ck hv.2 b rfl).1,hbl,hv,fun j hj=>by have:=hc j (by omega);rwa [Bm] at this,hb⟩
theorem WJ(h:SInv w P d p X)(hH:Has X.cur O k)(hO:OOk O k){m:Nat}(hm1:1<=m)(hm:m<=k):
 C V 234 #[p,J Y (64*(m:Int))] w fun e w'=>∃ q r,e=Ag (AO #[Am (Z ⟨q,0,H⟩),J Y 0])/\BRow w' q r (CQ O (64*m))/\At w.heap.size w w':=by
 have h12:=hO.k12;have KF:=vJ (fun(W:K)=>G7 m hm1 (by omega) W);have KG:=vJ (fun(W:K)=>Kw m hm1 (by omega) W);have KN:=vJ (lx (64*m) (by omega) w);rw[show((64*m:Nat):Int)=64*(m:Int) by omega] at KN
 have KR:Hid (∀ (W:K),At w.heap.size w W->∀ g,g<m->C V 218 #[p,J Y g] W fun e w'=>∃ b cap,e=Ag (AO #[Ak (Z ⟨b,0,H⟩) 64 cap,J Y 0])/\W.heap.size<=b/\b<w'.heap.size/\
  (∀ j,j<64->w'.cell? ⟨b,j*2,H⟩=Z (J .u16 ((Fa O g).getD j (0,0)).1)/\w'.cell? ⟨b,j*2+1,H⟩=Z (J .u16 ((Fa O g).getD j (0,0)).2))/\At W.heap.size W w'):=vJ fun W hb g hg=>(Oz (h.low hb) hH hO (show g<k by omega)).mono fun e w' ⟨b,cap,h1,h2,h3,_,h4,h5⟩=>⟨b,cap,h1,h2,h3,h4,h5⟩
 have HU:Hid (∀ g j x y,j<64->g<m->x=((Fa O g).getD j (0,0)).1->y=((Fa O g).getD j (0,0)).2->Pw x y=!E8 O (64*g+j)):=vJ fun g j x y hj hg ex ey=>by
  have e1:=Jf O g hj;have hf:=hO.frm (64*g+j) (by omega);rw[e1] at ex ey;unfold OU at hf;rw[<- ex,<- ey] at hf;unfold E8;rw[<- ex];by_cases hx:x=0
  . rw[hx] at hf |-
    rw[Rk hf];rfl
  . have hxb:(x==0)=I:=by simpa using hx
    rw[Pw,hxb,AF hx];rfl
 have hm12:m<=12:=by omega
 clear h hH hO h12 hm;go_enter Tryz.func234,Tryz.ntmps234
 go_wp2_with (first
  |(go_at_call 208;refine(KF.out _).mono ?_;rintro e w' ⟨rfl,rfl⟩)
  |(go_at_call 233;refine(KG.out _).mono ?_;rintro e w' ⟨rfl,rfl⟩)
  |(go_at_call 253;refine KN.out.mono ?_;rintro e w1 ⟨rfl,TY,hb1⟩))
 obtain⟨r,hr⟩:=nm w.heap.size;rw[<- hr] at TY |-
 obtain⟨q,hq⟩:=nm (r+1);rw[<- hq] at TY |-
 have hrq:r<q:=by omega
 have hwr:w.heap.size<=r:=by omega
 obtain⟨L,hL⟩:=nm (64*m);rw[<- hL] at TY;rw[<- dq (E8 O)] at TY;have HL0:=vJ hL;have HR1:Hid (BRow w1 q r (Mf (E8 O) (64*0) L)):=vJ TY;have tX:At w.heap.size w w1:=hb1;clear hr hq TY hL hb1;go_loopw [19] (fun i wr=>∃ g:Nat,g<=m/\i=J Y g/\Hid (BRow wr q r (Mf (E8 O) (64*g) L))/\At w.heap.size w wr) (fun i _=>m-(intOf i).toNat)
 case atStart=>exact⟨0,by omega,rfl,HR1,tX⟩
 case round=>
  obtain⟨g,hg,rfl,HROW,hbr⟩:=hrel;clear HR1 tX;by_cases hlt:g<m
  . have eg:(g:Int)<12:=by omega
    have egm:(g:Int)<(m:Int):=(by omega);have KR1:=vJ (KR.out wr hbr g hlt);have hrl:=HROW.out.lt;have HRLT:=vJ hrl;clear hrl;go_wp2_with (go_at_call 218;refine KR1.out.mono ?_;rintro e w2 ⟨b,cap,rfl,hbb,hbl,hc,hb2⟩)
    have Mt:=HROW.out.below hb2 HRLT.out.1 HRLT.out.2;have hb02:=hbr.trans (hb2.mono hbr.size);have hbq:q<b:=(by have:=HRLT.out.1;omega);have hbr':r<b:=(by omega);have HC:=vJ hc;have HR2:Hid (BRow w2 q r (Mf (E8 O) (64*g+0) L)):=vJ Mt;clear Mt hc hb2 hbr HROW HRLT KR1;go_loopw [33] (fun i wr=>∃ j:Nat,j<=64/\i=J Y j/\Hid (BRow wr q r (Mf (E8 O) (64*g+j) L))/\Hid (wr.heap[b]? =w2.heap[b]?)/\At w.heap.size w wr) (fun i _=>64-(intOf i).toNat)
    case atStart=>exact⟨0,by omega,rfl,HR2,vJ rfl,hb02⟩
    case round=>
     obtain⟨j,hj,rfl,HROW,HE,hbi⟩:=hrel;clear HR2 hb02;by_cases hjt:j<64
     . have hck:=HC.out j hjt
       have Qt:=HU.out g j _ _ hjt hlt rfl rfl;obtain⟨x,hx⟩:=nm (((Fa O g).getD j (0,0)).1);obtain⟨y,hy⟩:=nm (((Fa O g).getD j (0,0)).2);rw[<- hx,<- hy] at hck;rw[<- hx,<- hy] at Qt;have c1:=(Bh (a:=⟨b,j*2,H⟩) (w:=w2) HE.out).trans hck.1;have c2:=(Bh (a:=⟨b,j*2+1,H⟩) (w:=w2) HE.out).trans hck.2;have ej:(j:Int)<64:=(by omega);have hrl:=HROW.out.lt;obtain⟨U,hU⟩:=nm (E8 O (64*g+j));rw[<- hU] at Qt;have M4:=k8 (E8 O) (64*g+j) L;rw[<- hU] at M4;have HPS:=vJ M4;have hb3:=Ay wr (Ar #[J .u16 x,J .u16 y] 165);have KFr:=vJ (JB x y (!U) Qt (wr.alloc (Ar #[J .u16 x,J .u16 y] 165)));have KS:Hid (∀ (W:K),BRow W q r (Mf (E8 O) (64*g+j) L)->C V 254 #[Am (Z ⟨q,0,H⟩),J Y ((g:Int)*64+j),A1 U] W fun e w'=>e=Ag (J Y 0)/\BRow w' q r (Mf (E8 O) (64*g+(j+1)) L)/\Wrote W w' r):=vJ fun W hr=>by
        have:=RS hr (64*g+j) (by rw[Pv,HL0.out];omega) U;rw[HPS.out] at this;rw[show((64*g+j:Nat):Int)=(g:Int)*64+j by omega] at this;exact this
       have HROW3:=vJ (HROW.out.below hb3 hrl.1 hrl.2);clear hx hy hck Qt hU M4 HPS;cases U
       all_goals
        go_wp2_with (first
         |(go_at_call 203;refine KFr.out.mono ?_;rintro e w4 ⟨rfl,hb4⟩;have XG:=HROW3.out.below hb4 (by have:=hrl.1;simp;omega) (by have:=hrl.2;simp;omega);have hb34:=hb3.trans (hb4.mono hb3.size))
         |(go_at_call 254;refine(KS.out _ XG).mono ?_;rintro e w5 ⟨rfl,tY,hw5⟩))
        go_roundw
        case rel=>
         refine⟨j+1,by omega,by go_num,tY,?_,(hbi.trans (hb34.mono hbi.size)).trans (hw5.below (by omega))⟩;have hbw:b<wr.heap.size:=by
          have:=(Al.1 (HE.out.trans (Array.getElem?_eq_getElem hbl))).1;exact this
         exact(hw5.2.2.2.2 _ (by omega)).trans ((hb34.block b hbw).trans HE.out)
        case measure=>simp[intOf];omega
     . obtain rfl:j=64:=by omega
       have HROW':Hid (BRow wr q r (Mf (E8 O) (64*(g+1)) L)):=vJ (by rw[show 64*(g+1)=64*g+64 by omega];exact HROW.out);go_wp2;go_roundw
       case rel=>exact⟨g+1,by omega,by go_num,HROW',hbi⟩
       case measure=>simp[intOf];omega
  . obtain rfl:g=m:=by omega
    have hrow:=HROW.out;rw[<- HL0.out,dY] at hrow;go_wp2;go_ret2;exact⟨q,r,rfl,by rw[<- HL0.out];exact hrow,hbr⟩
end
end
section
open Go.RowKit
theorem Ua(n lo hi:Int)(w:K):C V 232 #[J Y n,J Y lo,J Y hi] w fun e w'=>e=Ag (A1 (decide (lo<=n/\n<=hi)))/\w=w':=by
 by_cases h1:lo<=n
 . by_cases h2:n<=hi
   . rw[AF ⟨h1,h2⟩]
     go_enter Tryz.func232,Tryz.ntmps232;go_wp2;go_ret;exact⟨rfl,rfl⟩
   . rw[AG (fun h=>h2 h.2)]
     go_enter Tryz.func232,Tryz.ntmps232;go_wp2;go_ret;exact⟨rfl,rfl⟩
 . rw[AG (fun h=>h1 h.1)]
   go_enter Tryz.func232,Tryz.ntmps232;go_wp2;go_ret;exact⟨rfl,rfl⟩
theorem DQ(n lo hi:Int)(B:Bool)(h:decide (lo<=n/\n<=hi)=B)(w:K):C V 232 #[J Y n,J Y lo,J Y hi] w fun e w'=>e=Ag (A1 B)/\w=w':=by
 rw[<- h];exact Ua n lo hi w
theorem Iu(b:Int)(hm:b<=9223372036854775807)(B:Bool)(h:CY b=B)(w:K):C V 208 #[J Y b] w fun e w'=>e=Ag (A1 B)/\w=w':=by
 rw[<- h];exact GS b hm w
theorem Ik(b:Int)(hm:b<=9223372036854775807)(B:Bool)(h:CY b=B)(w:K):C V 92 #[J Y b] w fun e w'=>e=Ag (A1 B)/\w=w':=by
 rw[<- h];exact Lb b hm w
theorem DI{b:Int}(h:CY b=A):0<=b/\b<=768/\Na b=b / 64:=by
 have:=A7 h;exact⟨by omega,by omega,by unfold Na;rw[AC h]⟩
theorem Mz(b:Int)(h:CY b=A)(G:Int)(hG:G=b / 64)(w:K):C V 233 #[J Y b] w fun e w'=>e=Ag (J Y G)/\w=w':=by
 have:=WK b (by have:=DI h;omega) w;rw[(DI h).2.2] at this;rw[hG];exact this
def YM(G1 G2 b tg cu io ba:Int):Bool:=CY tg && (decide (b<tg) && (decide (G1<=cu/\cu<=G2) && ((io==0) && (ba==0))))
def SE(b tg cu io ba:Int):Bool:=CY tg && (decide (b<tg) && (decide (b / 64<=cu) && (decide (cu<=tg / 64) && ((io==0) && (ba==0)))))
def QP(b tg cu io ba:Int):Bool:=(tg==0) && (decide (1<=io) && (decide (io<=47) && (decide (0<=ba) && (decide (ba<=b) && (decide (0<=cu) && (decide (cu<=b)))))))
theorem mr(b tg cu io ba:Int):SE b tg cu io ba=vi b tg cu io ba:=by simp[SE,vi,Bool.decide_and,Bool.and_assoc]
theorem mB(b tg cu io ba:Int):QP b tg cu io ba=lX b tg cu io ba:=by simp[QP,lX,Bool.decide_and,Bool.and_assoc]
theorem oy(b tg cu io ba t0 t1 t2 t3 t4 t5:Int)(w:K)  :C V 209 #[BD #[J Y b,J Y 0,J Y tg,J Y cu,J Y io,J Y ba,J Y t0,J Y t1,J Y t2,J Y t3,J Y t4,J Y t5]] w fun e w'=>e=Ag (A1 (bV tg cu io ba))/\At w.heap.size w w':=by
 have HR:bV tg cu io ba=((tg==0) && ((cu==0) && ((io==0) && ((ba==0))))):=rfl;rcases h0:(tg==0) with _|_
 . replace HR:bV tg cu io ba=I:=by rw[HR,h0] <;> rfl
   rw[HR];clear HR;go_enter Tryz.func209,Tryz.ntmps209;go_wp2;go_ret;exact⟨rfl,Ay _ _⟩
 . rw[h0,AP] at HR
   rcases h1:(cu==0) with _|_
   . replace HR:bV tg cu io ba=I:=by rw[HR,h1] <;> rfl
     rw[HR];clear HR;go_enter Tryz.func209,Tryz.ntmps209;go_wp2;go_ret;exact⟨rfl,Ay _ _⟩
   . rw[h1,AP] at HR
     rcases h2:(io==0) with _|_
     . replace HR:bV tg cu io ba=I:=by rw[HR,h2] <;> rfl
       rw[HR];clear HR;go_enter Tryz.func209,Tryz.ntmps209;go_wp2;go_ret;exact⟨rfl,Ay _ _⟩
     . rw[h2,AP] at HR
       rcases h3:(ba==0) with _|_
       . replace HR:bV tg cu io ba=I:=by rw[HR,h3] <;> rfl
         rw[HR];clear HR;go_enter Tryz.func209,Tryz.ntmps209;go_wp2;go_ret;exact⟨rfl,Ay _ _⟩
       . rw[h3] at HR
         rw[HR];clear HR;go_enter Tryz.func209,Tryz.ntmps209;go_wp2;go_ret;exact⟨rfl,Ay _ _⟩
theorem nU(b tg cu io ba t0 t1 t2 t3 t4 t5:Int)(w:K)  :C V 143 #[BD #[J Y b,J Y 0,J Y tg,J Y cu,J Y io,J Y ba,J Y t0,J Y t1,J Y t2,J Y t3,J Y t4,J Y t5]] w fun e w'=>e=Ag (A1 (bV tg cu io ba))/\At w.heap.size w w':=by
 have HR:bV tg cu io ba=((tg==0) && ((cu==0) && ((io==0) && ((ba==0))))):=rfl;rcases h0:(tg==0) with _|_
 . replace HR:bV tg cu io ba=I:=by rw[HR,h0] <;> rfl
   rw[HR];clear HR;go_enter Tryz.func143,Tryz.ntmps143;go_wp2;go_ret;exact⟨rfl,Ay _ _⟩
 . rw[h0,AP] at HR
   rcases h1:(cu==0) with _|_
   . replace HR:bV tg cu io ba=I:=by rw[HR,h1] <;> rfl
     rw[HR];clear HR;go_enter Tryz.func143,Tryz.ntmps143;go_wp2;go_ret;exact⟨rfl,Ay _ _⟩
   . rw[h1,AP] at HR
     rcases h2:(io==0) with _|_
     . replace HR:bV tg cu io ba=I:=by rw[HR,h2] <;> rfl
       rw[HR];clear HR;go_enter Tryz.func143,Tryz.ntmps143;go_wp2;go_ret;exact⟨rfl,Ay _ _⟩
     . rw[h2,AP] at HR
       rcases h3:(ba==0) with _|_
       . replace HR:bV tg cu io ba=I:=by rw[HR,h3] <;> rfl
         rw[HR];clear HR;go_enter Tryz.func143,Tryz.ntmps143;go_wp2;go_ret;exact⟨rfl,Ay _ _⟩
       . rw[h3] at HR
         rw[HR];clear HR;go_enter Tryz.func143,Tryz.ntmps143;go_wp2;go_ret;exact⟨rfl,Ay _ _⟩
theorem lg(b tg cu io ba t0 t1 t2 t3 t4 t5:Int)(w:K)(hb:CY b=A)(hm:tg<=9223372036854775807)(G1 G2:Int)(oG:G1=b / 64)(rB:G2=tg / 64):C V 209 #[BD #[J Y b,J Y 1,J Y tg,J Y cu,J Y io,J Y ba,J Y t0,J Y t1,J Y t2,J Y t3,J Y t4,J Y t5]] w fun e w'=>e=Ag (A1 (YM G1 G2 b tg cu io ba))/\At w.heap.size w w':=by
 have HR:YM G1 G2 b tg cu io ba=((CY tg) && ((decide (b<tg)) && ((decide (G1<=cu/\cu<=G2)) && ((io==0) && ((ba==0)))))):=rfl;rcases h0:(CY tg) with _|_
 . replace HR:YM G1 G2 b tg cu io ba=I:=by rw[HR,h0] <;> rfl
   rw[HR];clear HR;have K0:=vJ (Iu tg hm I h0);clear h0;clear hb hm oG rB;go_enter Tryz.func209,Tryz.ntmps209;go_wp2;have hB:=Ay w (Ar #[J Y b,J Y 1,J Y tg,J Y cu,J Y io,J Y ba,J Y t0,J Y t1,J Y t2,J Y t3,J Y t4,J Y t5] 149);have hh:=Aw w (Ar #[J Y b,J Y 1,J Y tg,J Y cu,J Y io,J Y ba,J Y t0,J Y t1,J Y t2,J Y t3,J Y t4,J Y t5] 149);generalize w.alloc (Ar #[J Y b,J Y 1,J Y tg,J Y cu,J Y io,J Y ba,J Y t0,J Y t1,J Y t2,J Y t3,J Y t4,J Y t5] 149)=W1 at hB hh |-
   have c0:W1.cell? ⟨w.heap.size,0,H⟩=Z (J Y b):=(by rw[Az _ _ _ _ _ _ hh];rfl);have c2:W1.cell? ⟨w.heap.size,2,H⟩=Z (J Y tg):=(by rw[Az _ _ _ _ _ _ hh];rfl);have c3:W1.cell? ⟨w.heap.size,3,H⟩=Z (J Y cu):=(by rw[Az _ _ _ _ _ _ hh];rfl);have c4:W1.cell? ⟨w.heap.size,4,H⟩=Z (J Y io):=(by rw[Az _ _ _ _ _ _ hh];rfl);have c5:W1.cell? ⟨w.heap.size,5,H⟩=Z (J Y ba):=(by rw[Az _ _ _ _ _ _ hh];rfl);clear hh;go_quiet (first|(go_at_call 208;with_reducible refine Ce (K0.out _)))
   go_wp2;go_ret;exact⟨rfl,A2 hB _⟩
 . rw[h0,AP] at HR
   have hK2:=vJ (Mz tg h0 G2 rB);have K0:=vJ (Iu tg hm A h0);clear h0;rcases h1:(decide (b<tg)) with _|_
   . replace HR:YM G1 G2 b tg cu io ba=I:=by rw[HR,h1] <;> rfl
     rw[HR];clear HR;have g1:¬ b<tg:=BL h1;clear hb hm oG rB;go_enter Tryz.func209,Tryz.ntmps209;go_wp2;have hB:=Ay w (Ar #[J Y b,J Y 1,J Y tg,J Y cu,J Y io,J Y ba,J Y t0,J Y t1,J Y t2,J Y t3,J Y t4,J Y t5] 149);have hh:=Aw w (Ar #[J Y b,J Y 1,J Y tg,J Y cu,J Y io,J Y ba,J Y t0,J Y t1,J Y t2,J Y t3,J Y t4,J Y t5] 149);generalize w.alloc (Ar #[J Y b,J Y 1,J Y tg,J Y cu,J Y io,J Y ba,J Y t0,J Y t1,J Y t2,J Y t3,J Y t4,J Y t5] 149)=W1 at hB hh |-
     have c0:W1.cell? ⟨w.heap.size,0,H⟩=Z (J Y b):=(by rw[Az _ _ _ _ _ _ hh];rfl);have c2:W1.cell? ⟨w.heap.size,2,H⟩=Z (J Y tg):=(by rw[Az _ _ _ _ _ _ hh];rfl);have c3:W1.cell? ⟨w.heap.size,3,H⟩=Z (J Y cu):=(by rw[Az _ _ _ _ _ _ hh];rfl);have c4:W1.cell? ⟨w.heap.size,4,H⟩=Z (J Y io):=(by rw[Az _ _ _ _ _ _ hh];rfl);have c5:W1.cell? ⟨w.heap.size,5,H⟩=Z (J Y ba):=(by rw[Az _ _ _ _ _ _ hh];rfl);clear hh;go_quiet (first|(go_at_call 208;with_reducible refine Ce (K0.out _)))
     go_wp2;go_ret;exact⟨rfl,A2 hB _⟩
   . rw[h1,AP] at HR
     have g1:b<tg:=A7 h1;rcases h2:(decide (G1<=cu/\cu<=G2)) with _|_
     . replace HR:YM G1 G2 b tg cu io ba=I:=by rw[HR,h2] <;> rfl
       rw[HR];clear HR;have K1:=vJ (Mz b hb G1 oG);have K2:=vJ (hK2.out);have K3:=vJ (DQ cu (G1) (G2) I h2);clear h2;clear hb hm oG rB;go_enter Tryz.func209,Tryz.ntmps209;go_wp2;have hB:=Ay w (Ar #[J Y b,J Y 1,J Y tg,J Y cu,J Y io,J Y ba,J Y t0,J Y t1,J Y t2,J Y t3,J Y t4,J Y t5] 149);have hh:=Aw w (Ar #[J Y b,J Y 1,J Y tg,J Y cu,J Y io,J Y ba,J Y t0,J Y t1,J Y t2,J Y t3,J Y t4,J Y t5] 149);generalize w.alloc (Ar #[J Y b,J Y 1,J Y tg,J Y cu,J Y io,J Y ba,J Y t0,J Y t1,J Y t2,J Y t3,J Y t4,J Y t5] 149)=W1 at hB hh |-
       have c0:W1.cell? ⟨w.heap.size,0,H⟩=Z (J Y b):=(by rw[Az _ _ _ _ _ _ hh];rfl);have c2:W1.cell? ⟨w.heap.size,2,H⟩=Z (J Y tg):=(by rw[Az _ _ _ _ _ _ hh];rfl);have c3:W1.cell? ⟨w.heap.size,3,H⟩=Z (J Y cu):=(by rw[Az _ _ _ _ _ _ hh];rfl);have c4:W1.cell? ⟨w.heap.size,4,H⟩=Z (J Y io):=(by rw[Az _ _ _ _ _ _ hh];rfl);have c5:W1.cell? ⟨w.heap.size,5,H⟩=Z (J Y ba):=(by rw[Az _ _ _ _ _ _ hh];rfl);clear hh;go_quiet (first|(go_at_call 208;with_reducible refine Ce (K0.out _))|(go_at_call 233;with_reducible refine Ce (K1.out _))|(go_at_call 233;with_reducible refine Ce (K2.out _))|(go_at_call 232;with_reducible refine Ce (K3.out _)))
       go_wp2;go_ret;exact⟨rfl,A2 hB _⟩
     . rw[h2,AP] at HR
       have K1:=vJ (Mz b hb G1 oG);have K2:=vJ (hK2.out);have K3:=vJ (DQ cu (G1) (G2) A h2);clear h2;rcases h3:(io==0) with _|_
       . replace HR:YM G1 G2 b tg cu io ba=I:=by rw[HR,h3] <;> rfl
         rw[HR];clear HR;clear hb hm oG rB;go_enter Tryz.func209,Tryz.ntmps209;go_wp2;have hB:=Ay w (Ar #[J Y b,J Y 1,J Y tg,J Y cu,J Y io,J Y ba,J Y t0,J Y t1,J Y t2,J Y t3,J Y t4,J Y t5] 149);have hh:=Aw w (Ar #[J Y b,J Y 1,J Y tg,J Y cu,J Y io,J Y ba,J Y t0,J Y t1,J Y t2,J Y t3,J Y t4,J Y t5] 149);generalize w.alloc (Ar #[J Y b,J Y 1,J Y tg,J Y cu,J Y io,J Y ba,J Y t0,J Y t1,J Y t2,J Y t3,J Y t4,J Y t5] 149)=W1 at hB hh |-
         have c0:W1.cell? ⟨w.heap.size,0,H⟩=Z (J Y b):=(by rw[Az _ _ _ _ _ _ hh];rfl);have c2:W1.cell? ⟨w.heap.size,2,H⟩=Z (J Y tg):=(by rw[Az _ _ _ _ _ _ hh];rfl);have c3:W1.cell? ⟨w.heap.size,3,H⟩=Z (J Y cu):=(by rw[Az _ _ _ _ _ _ hh];rfl);have c4:W1.cell? ⟨w.heap.size,4,H⟩=Z (J Y io):=(by rw[Az _ _ _ _ _ _ hh];rfl);have c5:W1.cell? ⟨w.heap.size,5,H⟩=Z (J Y ba):=(by rw[Az _ _ _ _ _ _ hh];rfl);clear hh;go_quiet (first|(go_at_call 208;with_reducible refine Ce (K0.out _))|(go_at_call 233;with_reducible refine Ce (K1.out _))|(go_at_call 233;with_reducible refine Ce (K2.out _))|(go_at_call 232;with_reducible refine Ce (K3.out _)))
         go_wp2;go_ret;exact⟨rfl,A2 hB _⟩
       . rw[h3,AP] at HR
         rcases h4:(ba==0) with _|_
         . replace HR:YM G1 G2 b tg cu io ba=I:=by rw[HR,h4] <;> rfl
           rw[HR];clear HR;clear hb hm oG rB;go_enter Tryz.func209,Tryz.ntmps209;go_wp2;have hB:=Ay w (Ar #[J Y b,J Y 1,J Y tg,J Y cu,J Y io,J Y ba,J Y t0,J Y t1,J Y t2,J Y t3,J Y t4,J Y t5] 149);have hh:=Aw w (Ar #[J Y b,J Y 1,J Y tg,J Y cu,J Y io,J Y ba,J Y t0,J Y t1,J Y t2,J Y t3,J Y t4,J Y t5] 149);generalize w.alloc (Ar #[J Y b,J Y 1,J Y tg,J Y cu,J Y io,J Y ba,J Y t0,J Y t1,J Y t2,J Y t3,J Y t4,J Y t5] 149)=W1 at hB hh |-
           have c0:W1.cell? ⟨w.heap.size,0,H⟩=Z (J Y b):=(by rw[Az _ _ _ _ _ _ hh];rfl);have c2:W1.cell? ⟨w.heap.size,2,H⟩=Z (J Y tg):=(by rw[Az _ _ _ _ _ _ hh];rfl);have c3:W1.cell? ⟨w.heap.size,3,H⟩=Z (J Y cu):=(by rw[Az _ _ _ _ _ _ hh];rfl);have c4:W1.cell? ⟨w.heap.size,4,H⟩=Z (J Y io):=(by rw[Az _ _ _ _ _ _ hh];rfl);have c5:W1.cell? ⟨w.heap.size,5,H⟩=Z (J Y ba):=(by rw[Az _ _ _ _ _ _ hh];rfl);clear hh;go_quiet (first|(go_at_call 208;with_reducible refine Ce (K0.out _))|(go_at_call 233;with_reducible refine Ce (K1.out _))|(go_at_call 233;with_reducible refine Ce (K2.out _))|(go_at_call 232;with_reducible refine Ce (K3.out _)))
           go_wp2;go_ret;exact⟨rfl,A2 hB _⟩
         . rw[h4] at HR
           rw[HR];clear HR;clear hb hm oG rB;go_enter Tryz.func209,Tryz.ntmps209;go_wp2;have hB:=Ay w (Ar #[J Y b,J Y 1,J Y tg,J Y cu,J Y io,J Y ba,J Y t0,J Y t1,J Y t2,J Y t3,J Y t4,J Y t5] 149);have hh:=Aw w (Ar #[J Y b,J Y 1,J Y tg,J Y cu,J Y io,J Y ba,J Y t0,J Y t1,J Y t2,J Y t3,J Y t4,J Y t5] 149);generalize w.alloc (Ar #[J Y b,J Y 1,J Y tg,J Y cu,J Y io,J Y ba,J Y t0,J Y t1,J Y t2,J Y t3,J Y t4,J Y t5] 149)=W1 at hB hh |-
           have c0:W1.cell? ⟨w.heap.size,0,H⟩=Z (J Y b):=(by rw[Az _ _ _ _ _ _ hh];rfl);have c2:W1.cell? ⟨w.heap.size,2,H⟩=Z (J Y tg):=(by rw[Az _ _ _ _ _ _ hh];rfl);have c3:W1.cell? ⟨w.heap.size,3,H⟩=Z (J Y cu):=(by rw[Az _ _ _ _ _ _ hh];rfl);have c4:W1.cell? ⟨w.heap.size,4,H⟩=Z (J Y io):=(by rw[Az _ _ _ _ _ _ hh];rfl);have c5:W1.cell? ⟨w.heap.size,5,H⟩=Z (J Y ba):=(by rw[Az _ _ _ _ _ _ hh];rfl);clear hh;go_quiet (first|(go_at_call 208;with_reducible refine Ce (K0.out _))|(go_at_call 233;with_reducible refine Ce (K1.out _))|(go_at_call 233;with_reducible refine Ce (K2.out _))|(go_at_call 232;with_reducible refine Ce (K3.out _)))
           go_wp2;go_ret;exact⟨rfl,A2 hB _⟩
theorem nP(b tg cu io ba t0 t1 t2 t3 t4 t5:Int)(w:K)(hb:CY b=A)(hm:tg<=9223372036854775807):C V 209 #[BD #[J Y b,J Y 2,J Y tg,J Y cu,J Y io,J Y ba,J Y t0,J Y t1,J Y t2,J Y t3,J Y t4,J Y t5]] w fun e w'=>e=Ag (A1 (XO b tg cu io ba))/\At w.heap.size w w':=by
 have hb0:0<=b:=(DI hb).1;have hb1:b<=768:=(DI hb).2.1;have HR:XO b tg cu io ba=((CY tg) && ((decide (tg<b)) && ((cu==0) && ((io==0) && ((ba==0)))))):=rfl;rcases h0:(CY tg) with _|_
 . replace HR:XO b tg cu io ba=I:=by rw[HR,h0] <;> rfl
   rw[HR];clear HR;have K0:=vJ (Iu tg hm I h0);clear h0;clear hb hm;go_enter Tryz.func209,Tryz.ntmps209;go_wp2_with (first|(go_at_call 208;with_reducible refine(K0.out _).mono ?_;rintro e w' ⟨rfl,rfl⟩))
   go_ret;exact⟨rfl,Ay _ _⟩
 . rw[h0,AP] at HR
   have ht0:0<=tg:=(DI h0).1;have rC:tg<=768:=(DI h0).2.1;have K0:=vJ (Iu tg hm A h0);clear h0;rcases h1:(decide (tg<b)) with _|_
   . replace HR:XO b tg cu io ba=I:=by rw[HR,h1] <;> rfl
     rw[HR];clear HR;have g1:¬ tg<b:=BL h1;clear hb hm;go_enter Tryz.func209,Tryz.ntmps209;go_wp2_with (first|(go_at_call 208;with_reducible refine(K0.out _).mono ?_;rintro e w' ⟨rfl,rfl⟩))
     go_ret;exact⟨rfl,Ay _ _⟩
   . rw[h1,AP] at HR
     have g1:tg<b:=A7 h1;rcases h2:(cu==0) with _|_
     . replace HR:XO b tg cu io ba=I:=by rw[HR,h2] <;> rfl
       rw[HR];clear HR;clear hb hm;go_enter Tryz.func209,Tryz.ntmps209;go_wp2_with (first|(go_at_call 208;with_reducible refine(K0.out _).mono ?_;rintro e w' ⟨rfl,rfl⟩))
       go_ret;exact⟨rfl,Ay _ _⟩
     . rw[h2,AP] at HR
       rcases h3:(io==0) with _|_
       . replace HR:XO b tg cu io ba=I:=by rw[HR,h3] <;> rfl
         rw[HR];clear HR;clear hb hm;go_enter Tryz.func209,Tryz.ntmps209;go_wp2_with (first|(go_at_call 208;with_reducible refine(K0.out _).mono ?_;rintro e w' ⟨rfl,rfl⟩))
         go_ret;exact⟨rfl,Ay _ _⟩
       . rw[h3,AP] at HR
         rcases h4:(ba==0) with _|_
         . replace HR:XO b tg cu io ba=I:=by rw[HR,h4] <;> rfl
           rw[HR];clear HR;clear hb hm;go_enter Tryz.func209,Tryz.ntmps209;go_wp2_with (first|(go_at_call 208;with_reducible refine(K0.out _).mono ?_;rintro e w' ⟨rfl,rfl⟩))
           go_ret;exact⟨rfl,Ay _ _⟩
         . rw[h4] at HR
           rw[HR];clear HR;clear hb hm;go_enter Tryz.func209,Tryz.ntmps209;go_wp2_with (first|(go_at_call 208;with_reducible refine(K0.out _).mono ?_;rintro e w' ⟨rfl,rfl⟩))
           go_ret;exact⟨rfl,Ay _ _⟩
theorem nI(b tg cu io ba t0 t1 t2 t3 t4 t5:Int)(w:K)(hb:CY b=A)(hm:tg<=9223372036854775807):C V 209 #[BD #[J Y b,J Y 3,J Y tg,J Y cu,J Y io,J Y ba,J Y t0,J Y t1,J Y t2,J Y t3,J Y t4,J Y t5]] w fun e w'=>e=Ag (A1 (lX b tg cu io ba))/\At w.heap.size w w':=by
 have HR:lX b tg cu io ba=((tg==0) && ((decide (1<=io/\io<=47)) && ((decide (0<=ba/\ba<=b)) && ((decide (0<=cu/\cu<=b)))))):=rfl;rcases h0:(tg==0) with _|_
 . replace HR:lX b tg cu io ba=I:=by rw[HR,h0] <;> rfl
   rw[HR];clear HR;clear hb hm;go_enter Tryz.func209,Tryz.ntmps209;go_wp2;go_ret;exact⟨rfl,Ay _ _⟩
 . rw[h0,AP] at HR
   rcases h1:(decide (1<=io/\io<=47)) with _|_
   . replace HR:lX b tg cu io ba=I:=by rw[HR,h1] <;> rfl
     rw[HR];clear HR;have K0:=vJ (DQ io (1) (47) I h1);clear h1;clear hb hm;go_enter Tryz.func209,Tryz.ntmps209;go_wp2_with (first|(go_at_call 232;with_reducible refine(K0.out _).mono ?_;rintro e w' ⟨rfl,rfl⟩))
     go_ret;exact⟨rfl,Ay _ _⟩
   . rw[h1,AP] at HR
     have K0:=vJ (DQ io (1) (47) A h1);clear h1;rcases h2:(decide (0<=ba/\ba<=b)) with _|_
     . replace HR:lX b tg cu io ba=I:=by rw[HR,h2] <;> rfl
       rw[HR];clear HR;have K1:=vJ (DQ ba (0) (b) I h2);clear h2;clear hb hm;go_enter Tryz.func209,Tryz.ntmps209;go_wp2_with (first|(go_at_call 232;with_reducible refine(K0.out _).mono ?_;rintro e w' ⟨rfl,rfl⟩)|(go_at_call 232;with_reducible refine(K1.out _).mono ?_;rintro e w' ⟨rfl,rfl⟩))
       go_ret;exact⟨rfl,Ay _ _⟩
     . rw[h2,AP] at HR
       have K1:=vJ (DQ ba (0) (b) A h2);clear h2;rcases h3:(decide (0<=cu/\cu<=b)) with _|_
       . replace HR:lX b tg cu io ba=I:=by rw[HR,h3] <;> rfl
         rw[HR];clear HR;have K2:=vJ (DQ cu (0) (b) I h3);clear h3;clear hb hm;go_enter Tryz.func209,Tryz.ntmps209;go_wp2_with (first|(go_at_call 232;with_reducible refine(K0.out _).mono ?_;rintro e w' ⟨rfl,rfl⟩)|(go_at_call 232;with_reducible refine(K1.out _).mono ?_;rintro e w' ⟨rfl,rfl⟩)|(go_at_call 232;with_reducible refine(K2.out _).mono ?_;rintro e w' ⟨rfl,rfl⟩))
         go_ret;exact⟨rfl,Ay _ _⟩
       . rw[h3] at HR
         have K2:=vJ (DQ cu (0) (b) A h3);clear h3;rw[HR];clear HR;clear hb hm;go_enter Tryz.func209,Tryz.ntmps209;go_wp2_with (first|(go_at_call 232;with_reducible refine(K0.out _).mono ?_;rintro e w' ⟨rfl,rfl⟩)|(go_at_call 232;with_reducible refine(K1.out _).mono ?_;rintro e w' ⟨rfl,rfl⟩)|(go_at_call 232;with_reducible refine(K2.out _).mono ?_;rintro e w' ⟨rfl,rfl⟩))
         go_ret;exact⟨rfl,Ay _ _⟩
theorem oa(b tg cu io ba t0 t1 t2 t3 t4 t5:Int)(w:K)(hb:CY b=A)(hm:tg<=9223372036854775807):C V 143 #[BD #[J Y b,J Y 1,J Y tg,J Y cu,J Y io,J Y ba,J Y t0,J Y t1,J Y t2,J Y t3,J Y t4,J Y t5]] w fun e w'=>e=Ag (A1 (SE b tg cu io ba))/\At w.heap.size w w':=by
 have hb0:0<=b:=(DI hb).1;have hb1:b<=768:=(DI hb).2.1;have HR:SE b tg cu io ba=((CY tg) && ((decide (b<tg)) && ((decide (b / 64<=cu)) && ((decide (cu<=tg / 64)) && ((io==0) && ((ba==0))))))):=rfl;rcases h0:(CY tg) with _|_
 . replace HR:SE b tg cu io ba=I:=by rw[HR,h0] <;> rfl
   rw[HR];clear HR;have K0:=vJ (Ik tg hm I h0);clear h0;clear hb hm;go_enter Tryz.func143,Tryz.ntmps143;go_wp2_with (first|(go_at_call 92;with_reducible refine(K0.out _).mono ?_;rintro e w' ⟨rfl,rfl⟩))
   go_ret;exact⟨rfl,Ay _ _⟩
 . rw[h0,AP] at HR
   have ht0:0<=tg:=(DI h0).1;have rC:tg<=768:=(DI h0).2.1;have K0:=vJ (Ik tg hm A h0);clear h0;rcases h1:(decide (b<tg)) with _|_
   . replace HR:SE b tg cu io ba=I:=by rw[HR,h1] <;> rfl
     rw[HR];clear HR;have g1:¬ b<tg:=BL h1;clear hb hm;go_enter Tryz.func143,Tryz.ntmps143;go_wp2_with (first|(go_at_call 92;with_reducible refine(K0.out _).mono ?_;rintro e w' ⟨rfl,rfl⟩))
     go_ret;exact⟨rfl,Ay _ _⟩
   . rw[h1,AP] at HR
     have g1:b<tg:=A7 h1;rcases h2:(decide (b / 64<=cu)) with _|_
     . replace HR:SE b tg cu io ba=I:=by rw[HR,h2] <;> rfl
       rw[HR];clear HR;have g2:¬ b / 64<=cu:=BL h2;clear hb hm;go_enter Tryz.func143,Tryz.ntmps143;go_wp2_with (first|(go_at_call 92;with_reducible refine(K0.out _).mono ?_;rintro e w' ⟨rfl,rfl⟩))
       go_ret;exact⟨rfl,Ay _ _⟩
     . rw[h2,AP] at HR
       have g2:b / 64<=cu:=A7 h2;rcases h3:(decide (cu<=tg / 64)) with _|_
       . replace HR:SE b tg cu io ba=I:=by rw[HR,h3] <;> rfl
         rw[HR];clear HR;have g3:¬ cu<=tg / 64:=BL h3;clear hb hm;go_enter Tryz.func143,Tryz.ntmps143;go_wp2_with (first|(go_at_call 92;with_reducible refine(K0.out _).mono ?_;rintro e w' ⟨rfl,rfl⟩))
         go_ret;exact⟨rfl,Ay _ _⟩
       . rw[h3,AP] at HR
         have g3:cu<=tg / 64:=A7 h3;rcases h4:(io==0) with _|_
         . replace HR:SE b tg cu io ba=I:=by rw[HR,h4] <;> rfl
           rw[HR];clear HR;clear hb hm;go_enter Tryz.func143,Tryz.ntmps143;go_wp2_with (first|(go_at_call 92;with_reducible refine(K0.out _).mono ?_;rintro e w' ⟨rfl,rfl⟩))
           go_ret;exact⟨rfl,Ay _ _⟩
         . rw[h4,AP] at HR
           rcases h5:(ba==0) with _|_
           . replace HR:SE b tg cu io ba=I:=by rw[HR,h5] <;> rfl
             rw[HR];clear HR;clear hb hm;go_enter Tryz.func143,Tryz.ntmps143;go_wp2_with (first|(go_at_call 92;with_reducible refine(K0.out _).mono ?_;rintro e w' ⟨rfl,rfl⟩))
             go_ret;exact⟨rfl,Ay _ _⟩
           . rw[h5] at HR
             rw[HR];clear HR;clear hb hm;go_enter Tryz.func143,Tryz.ntmps143;go_wp2_with (first|(go_at_call 92;with_reducible refine(K0.out _).mono ?_;rintro e w' ⟨rfl,rfl⟩))
             go_ret;exact⟨rfl,Ay _ _⟩
theorem mR(b tg cu io ba t0 t1 t2 t3 t4 t5:Int)(w:K)(hb:CY b=A)(hm:tg<=9223372036854775807):C V 143 #[BD #[J Y b,J Y 2,J Y tg,J Y cu,J Y io,J Y ba,J Y t0,J Y t1,J Y t2,J Y t3,J Y t4,J Y t5]] w fun e w'=>e=Ag (A1 (XO b tg cu io ba))/\At w.heap.size w w':=by
 have hb0:0<=b:=(DI hb).1;have hb1:b<=768:=(DI hb).2.1;have HR:XO b tg cu io ba=((CY tg) && ((decide (tg<b)) && ((cu==0) && ((io==0) && ((ba==0)))))):=rfl;rcases h0:(CY tg) with _|_
 . replace HR:XO b tg cu io ba=I:=by rw[HR,h0] <;> rfl
   rw[HR];clear HR;have K0:=vJ (Ik tg hm I h0);clear h0;clear hb hm;go_enter Tryz.func143,Tryz.ntmps143;go_wp2_with (first|(go_at_call 92;with_reducible refine(K0.out _).mono ?_;rintro e w' ⟨rfl,rfl⟩))
   go_ret;exact⟨rfl,Ay _ _⟩
 . rw[h0,AP] at HR
   have ht0:0<=tg:=(DI h0).1;have rC:tg<=768:=(DI h0).2.1;have K0:=vJ (Ik tg hm A h0);clear h0;rcases h1:(decide (tg<b)) with _|_
   . replace HR:XO b tg cu io ba=I:=by rw[HR,h1] <;> rfl
     rw[HR];clear HR;have g1:¬ tg<b:=BL h1;clear hb hm;go_enter Tryz.func143,Tryz.ntmps143;go_wp2_with (first|(go_at_call 92;with_reducible refine(K0.out _).mono ?_;rintro e w' ⟨rfl,rfl⟩))
     go_ret;exact⟨rfl,Ay _ _⟩
   . rw[h1,AP] at HR
     have g1:tg<b:=A7 h1;rcases h2:(cu==0) with _|_
     . replace HR:XO b tg cu io ba=I:=by rw[HR,h2] <;> rfl
       rw[HR];clear HR;clear hb hm;go_enter Tryz.func143,Tryz.ntmps143;go_wp2_with (first|(go_at_call 92;with_reducible refine(K0.out _).mono ?_;rintro e w' ⟨rfl,rfl⟩))
       go_ret;exact⟨rfl,Ay _ _⟩
     . rw[h2,AP] at HR
       rcases h3:(io==0) with _|_
       . replace HR:XO b tg cu io ba=I:=by rw[HR,h3] <;> rfl
         rw[HR];clear HR;clear hb hm;go_enter Tryz.func143,Tryz.ntmps143;go_wp2_with (first|(go_at_call 92;with_reducible refine(K0.out _).mono ?_;rintro e w' ⟨rfl,rfl⟩))
         go_ret;exact⟨rfl,Ay _ _⟩
       . rw[h3,AP] at HR
         rcases h4:(ba==0) with _|_
         . replace HR:XO b tg cu io ba=I:=by rw[HR,h4] <;> rfl
           rw[HR];clear HR;clear hb hm;go_enter Tryz.func143,Tryz.ntmps143;go_wp2_with (first|(go_at_call 92;with_reducible refine(K0.out _).mono ?_;rintro e w' ⟨rfl,rfl⟩))
           go_ret;exact⟨rfl,Ay _ _⟩
         . rw[h4] at HR
           rw[HR];clear HR;clear hb hm;go_enter Tryz.func143,Tryz.ntmps143;go_wp2_with (first|(go_at_call 92;with_reducible refine(K0.out _).mono ?_;rintro e w' ⟨rfl,rfl⟩))
           go_ret;exact⟨rfl,Ay _ _⟩
theorem nv(b tg cu io ba t0 t1 t2 t3 t4 t5:Int)(w:K)(hb:CY b=A)(hm:tg<=9223372036854775807):C V 143 #[BD #[J Y b,J Y 3,J Y tg,J Y cu,J Y io,J Y ba,J Y t0,J Y t1,J Y t2,J Y t3,J Y t4,J Y t5]] w fun e w'=>e=Ag (A1 (QP b tg cu io ba))/\At w.heap.size w w':=by
 have hb0:0<=b:=(DI hb).1;have hb1:b<=768:=(DI hb).2.1;have HR:QP b tg cu io ba=((tg==0) && ((decide (1<=io)) && ((decide (io<=47)) && ((decide (0<=ba)) && ((decide (ba<=b)) && ((decide (0<=cu)) && ((decide (cu<=b))))))))):=rfl;rcases h0:(tg==0) with _|_
 . replace HR:QP b tg cu io ba=I:=by rw[HR,h0] <;> rfl
   rw[HR];clear HR;clear hb hm;go_enter Tryz.func143,Tryz.ntmps143;go_wp2;go_ret;exact⟨rfl,Ay _ _⟩
 . rw[h0,AP] at HR
   rcases h1:(decide (1<=io)) with _|_
   . replace HR:QP b tg cu io ba=I:=by rw[HR,h1] <;> rfl
     rw[HR];clear HR;have g1:¬ 1<=io:=BL h1;clear hb hm;go_enter Tryz.func143,Tryz.ntmps143;go_wp2;go_ret;exact⟨rfl,Ay _ _⟩
   . rw[h1,AP] at HR
     have g1:1<=io:=A7 h1;rcases h2:(decide (io<=47)) with _|_
     . replace HR:QP b tg cu io ba=I:=by rw[HR,h2] <;> rfl
       rw[HR];clear HR;have g2:¬ io<=47:=BL h2;clear hb hm;go_enter Tryz.func143,Tryz.ntmps143;go_wp2;go_ret;exact⟨rfl,Ay _ _⟩
     . rw[h2,AP] at HR
       have g2:io<=47:=A7 h2;rcases h3:(decide (0<=ba)) with _|_
       . replace HR:QP b tg cu io ba=I:=by rw[HR,h3] <;> rfl
         rw[HR];clear HR;have g3:¬ 0<=ba:=BL h3;clear hb hm;go_enter Tryz.func143,Tryz.ntmps143;go_wp2;go_ret;exact⟨rfl,Ay _ _⟩
       . rw[h3,AP] at HR
         have g3:0<=ba:=A7 h3;rcases h4:(decide (ba<=b)) with _|_
         . replace HR:QP b tg cu io ba=I:=by rw[HR,h4] <;> rfl
           rw[HR];clear HR;have g4:¬ ba<=b:=BL h4;clear hb hm;go_enter Tryz.func143,Tryz.ntmps143;go_wp2;go_ret;exact⟨rfl,Ay _ _⟩
         . rw[h4,AP] at HR
           have g4:ba<=b:=A7 h4;rcases h5:(decide (0<=cu)) with _|_
           . replace HR:QP b tg cu io ba=I:=by rw[HR,h5] <;> rfl
             rw[HR];clear HR;have g5:¬ 0<=cu:=BL h5;clear hb hm;go_enter Tryz.func143,Tryz.ntmps143;go_wp2;go_ret;exact⟨rfl,Ay _ _⟩
           . rw[h5,AP] at HR
             have g5:0<=cu:=A7 h5;rcases h6:(decide (cu<=b)) with _|_
             . replace HR:QP b tg cu io ba=I:=by rw[HR,h6] <;> rfl
               rw[HR];clear HR;have g6:¬ cu<=b:=BL h6;clear hb hm;go_enter Tryz.func143,Tryz.ntmps143;go_wp2;go_ret;exact⟨rfl,Ay _ _⟩
             . rw[h6] at HR
               have g6:cu<=b:=A7 h6;rw[HR];clear HR;clear hb hm;go_enter Tryz.func143,Tryz.ntmps143;go_wp2;go_ret;exact⟨rfl,Ay _ _⟩
theorem nX(st:Int)(b tg cu io ba t0 t1 t2 t3 t4 t5:Int)(w:K)(h0:st≠0)(h1:st≠1)(h2:st≠2)(h3:st≠3):C V 209 #[BD #[J Y b,J Y st,J Y tg,J Y cu,J Y io,J Y ba,J Y t0,J Y t1,J Y t2,J Y t3,J Y t4,J Y t5]] w fun e w'=>e=Ag (A1 I)/\At w.heap.size w w':=by
 have e0:(st==0)=I:=by simp[h0]
 have e1:(st==1)=I:=by simp[h1]
 have e2:(st==2)=I:=by simp[h2]
 have e3:(st==3)=I:=by simp[h3]
 clear h0 h1 h2 h3;go_enter Tryz.func209,Tryz.ntmps209;go_wp2;go_ret;exact⟨rfl,Ay _ _⟩
theorem nY(st:Int)(b tg cu io ba t0 t1 t2 t3 t4 t5:Int)(w:K)(h0:st≠0)(h1:st≠1)(h2:st≠2)(h3:st≠3):C V 143 #[BD #[J Y b,J Y st,J Y tg,J Y cu,J Y io,J Y ba,J Y t0,J Y t1,J Y t2,J Y t3,J Y t4,J Y t5]] w fun e w'=>e=Ag (A1 I)/\At w.heap.size w w':=by
 have e0:(st==0)=I:=by simp[h0]
 have e1:(st==1)=I:=by simp[h1]
 have e2:(st==2)=I:=by simp[h2]
 have e3:(st==3)=I:=by simp[h3]
 clear h0 h1 h2 h3;go_enter Tryz.func143,Tryz.ntmps143;go_wp2;go_ret;exact⟨rfl,Ay _ _⟩
def Gy(L:List Int):S:=BD (L.map (J Y)).toArray
def Cd(L:List Int)(T:TypeId):Obj:=Ar (L.map (J Y)).toArray T (0,0)
theorem Ih{W:K}{g:Nat}{L:List Int}{T:TypeId}(h:W.heap[g]? =Z (Cd L T))(k:Nat)(hk:k<L.length):W.cell? ⟨g,k,H⟩=Z (J Y (num L k)):=by
 rw[Az _ _ _ _ _ _ h];simp[num,hk]
def TD(L:List Int):Prop:=∀ i,num L i<=9223372036854775807
theorem ni:(V.info? 3).map (fun i=>(i.zero,i.size,i.bytes))=Z (Z (J Y 0),1,8):=by kernel_rfl
theorem RR:V.arrayLen 116=6:=by kernel_rfl
theorem TN:V.elem 116=3:=by kernel_rfl
theorem Qz(W:K)(a:Addr)(j:Nat)(hj:j<=6):(Instr.sliceAt 116 (Am (Z a)) H (Z (J Y (j:Int))) H).run V W=.ok (Ak (Z a) j 6) W:=by
 obtain⟨i,h2,h3,h4,h5⟩:=By ni;rw[run_sliceAt_array_h W 116 a (by rw[RR,TN];exact Tryz.underlying116) Y (j:Int) (by omega) (by rw[RR];omega),RR,TN];obtain⟨a1,a2,a3⟩:=a;simp[sizeOf,typeInfo,h2,h4,slicedAt,Addr.add]
theorem gC{L:List Int}(hL:L.length=12)(hT:TD L)(hb0:0<=num L 0)(hb1:num L 0<=768)(w:K):
 C V 210 #[Gy L] w fun e w'=>e=Ag (A1 (GT L))/\At w.heap.size w w':=by
 have hob:=Ay w (Cd L 149);have hh:=Aw w (Cd L 149);have ax:=fun k hk=>Ih hh k hk
 obtain⟨W1,hW1⟩:=nm (w.alloc (Cd L 149));rw[<- hW1] at hob ax;have HC:=vJ ax;have HW1:=vJ hW1;have HTO:=vJ hT;clear ax hh hT
 match L,hL with
 |[b,st,tg,cu,io,ba,t0,t1,t2,t3,t4,t5],_=>
  obtain⟨L,M5⟩:=nm ([b,st,tg,cu,io,ba,t0,t1,t2,t3,t4,t5]);rw[<- M5] at HC HW1 HTO;have HL:=vJ M5;have eb:num L 0=b:=by rw[M5];rfl
  have M6:w.alloc (Ar #[J Y b,J Y st,J Y tg,J Y cu,J Y io,J Y ba,J Y t0,J Y t1,J Y t2,J Y t3,J Y t4,J Y t5] 149)=W1:=by
   rw[hW1];rfl
  show C V 210 #[BD #[J Y b,J Y st,J Y tg,J Y cu,J Y io,J Y ba,J Y t0,J Y t1,J Y t2,J Y t3,J Y t4,J Y t5]] w fun e w'=>e=Ag (A1 (GT [b,st,tg,cu,io,ba,t0,t1,t2,t3,t4,t5]))/\At w.heap.size w w'
  rw[<- M5];have H2:=vJ M6;change 0<=b at hb0;change b<=768 at hb1;clear M5 hW1 M6;go_enter Tryz.func210,Tryz.ntmps210;go_wp2;rw[H2.out];have tZ:∀ j:Nat,j<6->(Instr.index 116 (BD #[J Y t0,J Y t1,J Y t2,J Y t3,J Y t4,J Y t5]) (J Y (j:Int))).run V W1=.ok (J Y (num L (6+j))) W1:=by
   intro j hj;rw[HL.out];have:j=0\/j=1\/j=2\/j=3\/j=4\/j=5:=(by omega);rcases this with rfl|rfl|rfl|rfl|rfl|rfl <;> simp[Instr.index,C2 Tryz.underlying116,asIntOf,go_sem,num]
  have HIX:=vJ tZ;have hsl:∀ j:Nat,j<=6->_:=fun j=>Qz W1 ⟨w.heap.size,6,H⟩ j
  have HSL:=vJ hsl;clear hsl;clear tZ
  go_loop [9] (fun i=>∃ j:Nat,j<=6/\i=J Y j/\Hid (Mn L j=A)) (fun i=>6-(intOf i).toNat)
  case atStart=>exact⟨0,by omega,rfl,rfl⟩
  case round=>
   obtain⟨j,hj,rfl,HF⟩:=hrel;by_cases hlt:j<6
   . have ip:=HIX.out j hlt
     have rD:=HTO.out (6+j);have cA:=HC.out 0 (by rw[HL.out];simp);rw[eb] at cA;obtain⟨x,hx⟩:=nm (num L (6+j));rw[<- hx] at ip rD;have HX:=vJ hx;clear hx;have C6:¬ Yh L j->GT L=I:=fun h=>by
      cases hf:GT L
      . rfl
      . exact absurd (LU hf j hlt) h
     have HNO:=vJ C6;clear C6;rcases h1:decide (0<=x/\x<=b-1) with _|_
     . have hr:=HNO.out (fun h=>BL h1 (by rw[HX.out,<- eb];exact h.1))
       have K1:=vJ (DQ x 0 (b-1) I h1);clear h1;go_wp2_with (first|(go_at_call 232;with_reducible refine(K1.out _).mono ?_;rintro e w' ⟨rfl,rfl⟩))
       go_ret;exact⟨by first|rfl|(rw [hr];rfl),hob⟩
     . have K1:=vJ (DQ x 0 (b-1) A h1)
       have HH1:=vJ (A7 h1);clear h1;rcases h2:CJ x with _|_
       . have K2:=vJ (LW x rD I h2)
         have HH2:=vJ h2;have hsl:=HSL.out j (by omega);clear h2;go_wp2_with (first|(go_at_call 232;with_reducible refine(K1.out _).mono ?_;rintro e w' ⟨rfl,rfl⟩)|(go_at_call 217;with_reducible refine(K2.out _).mono ?_;rintro e w' ⟨rfl,rfl⟩))
         clear ip hsl cA
         go_loop [27] (fun i=>∃ k:Nat,k<=j/\i=J Y k/\Hid (∀ m,m<k->num L (6+m)≠num L (6+j))) (fun i=>j-(intOf i).toNat)
         case atStart=>exact⟨0,by omega,rfl,fun m hm=>absurd hm (A8 _)⟩
         case round=>
          obtain⟨k,hk,rfl,HK⟩:=hrel;by_cases rE:k<j
          . have hck:=HC.out (6+k) (by rw[HL.out];simp;omega)
            obtain⟨y,hy⟩:=nm (num L (6+k));rw[<- hy] at hck;have HY:=vJ hy;clear hy;have elk:(k:Int)<(j:Int):=(by omega);rcases h3:(y==x) with _|_
            . go_wp2
              go_round
              case rel=>
               refine⟨k+1,by omega,by go_num,fun m hm=>?_⟩;by_cases e:m=k
               . subst e;rw[<- HY.out,<- HX.out];intro e;rw[e] at h3;simp at h3
               . exact HK.out m (by omega)
              case measure=>simp[intOf];omega
            . have hr:=HNO.out (fun h=>h.2.2 k rE (by rw[<- HY.out,<- HX.out];simpa using h3))
              go_wp2;go_ret;exact⟨by first|rfl|(rw [hr];rfl),hob⟩
          . go_wp2
            go_round
            case rel=>
             obtain rfl:k=j:=by omega
             refine⟨k+1,by omega,by go_num,?_⟩;show Mn L (k+1)=A
             exact Q7 HF.out ⟨by rw[<- HX.out,eb];exact HH1.out,by rw[<- HX.out];exact HH2.out,HK.out⟩
            case measure=>simp[intOf];omega
       . have hr:=HNO.out (fun h=>by have:=h.2.1;rw[<- HX.out,h2] at this;cases this)
         have K2:=vJ (LW x rD A h2);clear h2;go_wp2_with (first|(go_at_call 232;with_reducible refine(K1.out _).mono ?_;rintro e w' ⟨rfl,rfl⟩)|(go_at_call 217;with_reducible refine(K2.out _).mono ?_;rintro e w' ⟨rfl,rfl⟩))
         go_ret;exact⟨by first|rfl|(rw [hr];rfl),hob⟩
   . go_wp2
     go_ret;obtain rfl:j=6:=by omega
     exact⟨by rw[GT,HF.out];rfl,hob⟩
theorem eI{L:List Int}(hL:L.length=12)(hT:TD L)(hb:CY (num L 0)=A)(w:K):
 C V 209 #[Gy L] w fun e w'=>e=Ag (A1 (GH L))/\At w.heap.size w w':=by
 match L,hL with
 |[b,st,tg,cu,io,ba,t0,t1,t2,t3,t4,t5],_=>
  have hm:tg<=9223372036854775807:=hT 2;show C V 209 #[BD #[J Y b,J Y st,J Y tg,J Y cu,J Y io,J Y ba,J Y t0,J Y t1,J Y t2,J Y t3,J Y t4,J Y t5]] w fun e w'=>e=Ag (A1 (qV b st tg cu io ba))/\At w.heap.size w w'
  unfold qV;by_cases h0:st=0
  . rw[AC h0,h0];exact oy b tg cu io ba t0 t1 t2 t3 t4 t5 w
  rw[AE h0];by_cases h1:st=1
  . rw[AC h1,h1];exact lg b tg cu io ba t0 t1 t2 t3 t4 t5 w hb hm _ _ rfl rfl
  rw[AE h1];by_cases h2:st=2
  . rw[AC h2,h2];exact nP b tg cu io ba t0 t1 t2 t3 t4 t5 w hb hm
  rw[AE h2];by_cases h3:st=3
  . rw[AC h3,h3];exact nI b tg cu io ba t0 t1 t2 t3 t4 t5 w hb hm
  rw[AE h3];exact nX st b tg cu io ba t0 t1 t2 t3 t4 t5 w h0 h1 h2 h3
theorem Y4{L:List Int}(hL:L.length=12)(hT:TD L)(hb:CY (num L 0)=A)(w:K):
 C V 143 #[Gy L] w fun e w'=>e=Ag (A1 (GH L))/\At w.heap.size w w':=by
 match L,hL with
 |[b,st,tg,cu,io,ba,t0,t1,t2,t3,t4,t5],_=>
  have hm:tg<=9223372036854775807:=hT 2;show C V 143 #[BD #[J Y b,J Y st,J Y tg,J Y cu,J Y io,J Y ba,J Y t0,J Y t1,J Y t2,J Y t3,J Y t4,J Y t5]] w fun e w'=>e=Ag (A1 (qV b st tg cu io ba))/\At w.heap.size w w'
  unfold qV;by_cases h0:st=0
  . rw[AC h0,h0];exact nU b tg cu io ba t0 t1 t2 t3 t4 t5 w
  rw[AE h0];by_cases h1:st=1
  . rw[AC h1,h1,<- mr];exact oa b tg cu io ba t0 t1 t2 t3 t4 t5 w hb hm
  rw[AE h1];by_cases h2:st=2
  . rw[AC h2,h2];exact mR b tg cu io ba t0 t1 t2 t3 t4 t5 w hb hm
  rw[AE h2];by_cases h3:st=3
  . rw[AC h3,h3,<- mB];exact nv b tg cu io ba t0 t1 t2 t3 t4 t5 w hb hm
  rw[AE h3];exact nY st b tg cu io ba t0 t1 t2 t3 t4 t5 w h0 h1 h2 h3
theorem dG{L:List Int}(hL:L.length=12)(hT:TD L)(hb:CY (num L 0)=A)(B:Bool)(h:GH L=B)(w:K):
 C V 209 #[Gy L] w fun e w'=>e=Ag (A1 B)/\At w.heap.size w w':=by rw[<- h];exact eI hL hT hb w
theorem YD{L:List Int}(hL:L.length=12)(hT:TD L)(hb:CY (num L 0)=A)(B:Bool)(h:GH L=B)(w:K):
 C V 143 #[Gy L] w fun e w'=>e=Ag (A1 B)/\At w.heap.size w w':=by rw[<- h];exact Y4 hL hT hb w
theorem fE{L:List Int}(hL:L.length=12)(hT:TD L)(hb:CY (num L 0)=A)(B:Bool)(h:GT L=B)(w:K):
 C V 210 #[Gy L] w fun e w'=>e=Ag (A1 B)/\At w.heap.size w w':=by
 rw[<- h];exact gC hL hT (DI hb).1 (DI hb).2.1 w
theorem Jm{W:K}{g:Nat}{T:TypeId}{b st tg cu io ba t0 t1 t2 t3 t4 t5:Int}(h:W.heap[g]? =Z (Cd [b,st,tg,cu,io,ba,t0,t1,t2,t3,t4,t5] T)):
 (W.cell? ⟨g,0,H⟩=Z (J Y b)/\W.cell? ⟨g,1,H⟩=Z (J Y st)/\W.cell? ⟨g,2,H⟩=Z (J Y tg)/\W.cell? ⟨g,3,H⟩=Z (J Y cu))/\
 (W.cell? ⟨g,4,H⟩=Z (J Y io)/\W.cell? ⟨g,5,H⟩=Z (J Y ba)/\W.cell? ⟨g,6,H⟩=Z (J Y t0)/\W.cell? ⟨g,7,H⟩=Z (J Y t1))/\
 W.cell? ⟨g,8,H⟩=Z (J Y t2)/\W.cell? ⟨g,9,H⟩=Z (J Y t3)/\W.cell? ⟨g,10,H⟩=Z (J Y t4)/\W.cell? ⟨g,11,H⟩=Z (J Y t5):=by
 refine⟨⟨?_,?_,?_,?_⟩,⟨?_,?_,?_,?_⟩,?_,?_,?_,?_⟩ <;> (rw [Az _ _ _ _ _ _ h];rfl)
theorem Zk{L:List Int}(hL:L.length=12)(hT:TD L)(w:K):
 C V 195 #[Gy L] w fun e w'=>e=Ag (A1 (D7 L))/\At w.heap.size w w':=by
 have h0:CY (num L 0)=I\/CY (num L 0)=A:=by cases CY (num L 0) <;> simp
 have h1:GH L=I\/GH L=A:=by cases GH L <;> simp
 have h2:∃ B,GT L=B:=⟨_,rfl⟩;have hL':=hL;have hm:=hT 0;have KF:∀ B,CY (num L 0)=B->_:=fun B h=>Iu (num L 0) hm B h
 have KS:∀ (hb:CY (num L 0)=A) B,GH L=B->_:=fun hb B h=>dG hL hT hb B h
 have KT:∀ (hb:CY (num L 0)=A) B,GT L=B->_:=fun hb B h=>fE hL hT hb B h
 have hr:D7 L=(CY (num L 0) && (GH L && GT L)):=rfl;have hob:=Ay w (Cd L 149);have hh:=Aw w (Cd L 149);obtain⟨W1,hW1⟩:=nm (w.alloc (Cd L 149));rw[<- hW1] at hob hh
 match L,hL with
 |[b,st,tg,cu,io,ba,t0,t1,t2,t3,t4,t5],_=>
  have M6:w.alloc (Ar #[J Y b,J Y st,J Y tg,J Y cu,J Y io,J Y ba,J Y t0,J Y t1,J Y t2,J Y t3,J Y t4,J Y t5] 149)=W1:=by
   rw[hW1];rfl
  have H2:=vJ M6;have HH:=vJ hh;show C V 195 #[BD #[J Y b,J Y st,J Y tg,J Y cu,J Y io,J Y ba,J Y t0,J Y t1,J Y t2,J Y t3,J Y t4,J Y t5]] w fun e w'=>e=Ag (A1 (D7 _))/\At w.heap.size w w'
  rw[hr];change _<=_ at hm;rcases h0 with h0|h0
  . rw[h0]
    have K0:Hid (∀ w,C V 208 #[J Y b] w fun e w'=>e=Ag (A1 I)/\w=w'):=vJ (KF _ h0);clear KF KS KT hr h0 h1 h2 hh hW1 M6 hT hm hL';go_enter Tryz.func195,Tryz.ntmps195;go_wp2_with (first|(go_at_call 208;with_reducible refine(K0.out _).mono ?_;rintro e w' ⟨rfl,rfl⟩))
    go_ret;exact⟨rfl,Ay _ _⟩
  . rw[h0,AP]
    have K0:Hid (∀ w,C V 208 #[J Y b] w fun e w'=>e=Ag (A1 A)/\w=w'):=vJ (KF _ h0);rcases h1 with h1|h1
    . rw[h1,Bool.false_and]
      have K1:Hid (∀ w,C V 209 #[BD #[J Y b,J Y st,J Y tg,J Y cu,J Y io,J Y ba,J Y t0,J Y t1,J Y t2,J Y t3,J Y t4,J Y t5]] w fun e w'=>e=Ag (A1 I)/\At w.heap.size w w'):=vJ (KS h0 _ h1);clear KF KS KT hr h0 h1 h2 hh hW1 M6 hT hm hL';go_enter Tryz.func195,Tryz.ntmps195
      go_wp2_with (first
       |(go_at_call 208;with_reducible refine(K0.out _).mono ?_;rintro e w' ⟨rfl,rfl⟩)
       |(go_at_call 209;rw[H2.out];refine(K1.out _).mono ?_;rintro e w2 ⟨rfl,hb2⟩))
      go_ret;exact⟨rfl,hob.trans (hb2.mono hob.size)⟩
    . rw[h1,AP]
      obtain⟨B,h2⟩:=h2;rw[h2];have K1:Hid (∀ w,C V 209 #[BD #[J Y b,J Y st,J Y tg,J Y cu,J Y io,J Y ba,J Y t0,J Y t1,J Y t2,J Y t3,J Y t4,J Y t5]] w fun e w'=>e=Ag (A1 A)/\At w.heap.size w w'):=vJ (KS h0 _ h1);have K2:Hid (∀ w,C V 210 #[BD #[J Y b,J Y st,J Y tg,J Y cu,J Y io,J Y ba,J Y t0,J Y t1,J Y t2,J Y t3,J Y t4,J Y t5]] w fun e w'=>e=Ag (A1 B)/\At w.heap.size w w'):=vJ (KT h0 _ h2);clear KF KS KT hr h0 h1 h2 hh hW1 M6 hT hm hL';go_enter Tryz.func195,Tryz.ntmps195
      go_wp2_with (first
       |(go_at_call 208;with_reducible refine(K0.out _).mono ?_;rintro e w' ⟨rfl,rfl⟩)
       |(go_at_call 209;rw[H2.out];refine(K1.out _).mono ?_;rintro e w2 ⟨rfl,hb2⟩
         have hc:=Jm ((hb2.block _ (Al.1 HH.out).1).trans HH.out))
       |(go_at_call 210;refine(K2.out _).mono ?_;rintro e w3 ⟨rfl,hb3⟩))
      go_ret;exact⟨rfl,(hob.trans (hb2.mono hob.size)).trans (hb3.mono (AT hob.size hb2.size))⟩
def PY(g n:Nat):List S:=(Co n).flatMap fun i=>[Am (Z ⟨g,i,H⟩),J Y (IG i:Int)]
theorem O7(g n:Nat):PY g (n+1)=PY g n ++ [Am (Z ⟨g,n,H⟩),J Y (IG n:Int)]:=by
 simp[PY,Hi]
theorem IV(g n:Nat):(PY g n).length=n*2:=by
 induction n with
 |zero=>rfl
 |succ n ih=>rw[O7,Ax,ih];simp;omega
theorem VS(g:Nat):∀ n i,i<n->(PY g n)[i*2]? =Z (Am (Z ⟨g,i,H⟩))/\(PY g n)[i*2+1]? =Z (J Y (IG i:Int))
 |0,i,h=>absurd h (A8 _)
 |n+1,i,h=>by
  have hl:=IV g n;rw[O7];by_cases e:i<n
  . have:=VS g n i e
    rw[BT (by omega),BT (by omega)];exact this
  . obtain rfl:i=n:=by omega
    rw[BG (by omega),BG (by omega),hl];exact⟨by simp,by rw[show i*2+1-i*2=1 by omega];rfl⟩
theorem qj:(V.info? 269).map (fun i=>(i.zero,i.size,i.bytes))=Z (Z (BD #[Am H,J Y 0]),2,16):=by kernel_rfl
def Fld(w:K)(B g:Nat)(v:S)(n:Nat):Prop:=w.ownsRow B 269 2 v n (PY g n)
theorem Fld.below{w w':K}{B g:Nat}{v:S}{n:Nat}(h:Fld w B g v n)(hb:At w.heap.size w w'):Fld w' B g v n:=by
 refine⟨h.1,?_⟩;rcases h.2 with h| ⟨k,cap,cur,hv,hg,hh,r⟩
 . exact AN h
 . exact Ba ⟨k,cap,cur,hv,hg,by rw[hb.block k (Al.1 hh).1];exact hh,r⟩
theorem NH(w1:K)(g n:Nat)(hn:6<=n)(Oh:n<12){ops:Array BS}{rest:List BS}{o:BS}{a:Act}{Q:Exit->Act->K->Prop}(Dn:o.guard=H)(s y:Operand)
 (ho:o.op=.call { callee:=.builtin .append,args:=#[s,y],argTypes:=#[265,265] })
 (B:Nat) (v:S) (hs:a.eval s=v) (hown:Fld w1 B g v n) (hy:a.eval y=Ak (Z ⟨w1.heap.size,0,H⟩) 1 1) (hB:B<=w1.heap.size)
 (h:∀ v' w',Fld w' B g v' (n+1)->At B w1 w'->Cn V ops Q rest (a.put o.dst v') w'):Cn V ops Q (o :: rest) a (w1.alloc (Ar #[Am (Z ⟨g,n,H⟩),J Y 2] 269)):=by
 obtain⟨i,h2,h3,h4,h5⟩:=By qj;have hbel:At w1.heap.size w1 (w1.alloc (Ar #[Am (Z ⟨g,n,H⟩),J Y 2] 269)):=Ay _ _;have MZ:(w1.alloc (Ar #[Am (Z ⟨g,n,H⟩),J Y 2] 269)).heap[w1.heap.size]? =Z (Ar #[Am (Z ⟨g,n,H⟩),J Y 2] 269 (0,0)):=Aw w1 _;have GN:IG n=2:=AE (by omega);have hf:=hown.below hbel;refine Mh _ Dn s y 265 ho B 269 i _ 2 16 Tryz.underlying265 h2 h3 h4 h5 rfl (by decide) v n _ hs hf ⟨w1.heap.size,0,H⟩ 1 1 [Am (Z ⟨g,n,H⟩),J Y 2] hy rfl ?_ ?_ (by simp only[maxLen];omega) (by omega) (by simp;omega) fun v' w' h6 h7 _=>?_
 . intro j u hj
   have oQ:j<2:=by simpa using (Bj.1 hj).1
   rw[Cb,Bm,Az _ _ _ _ _ _ MZ,<- hj];have:j=0\/j=1:=(by omega);rcases this with rfl|rfl <;> rfl
 . intro u hu
   simp at hu;rcases hu with rfl|rfl <;> rfl
 . refine h v' w' ?_ ((hbel.mono hB).trans ((AM _ _).grown h7 (by simp;omega) fun k hk=>(Ck hf k hk).1))
   rw[Fld,O7,GN];exact h6
theorem QB(w:K)(g:Nat):C V 194 #[Am (Z ⟨g,0,H⟩)] w fun e w'=>∃ v,e=Ag v/\Fld w' w.heap.size g v 12/\At w.heap.size w w':=by
 go_enter Tryz.func194,Tryz.ntmps194;go_wp2;go_still_tail 24,(by kernel_rfl)
 go_wp2;have h6:PY g 6=[Am (Z ⟨g,0,H⟩),J Y 2,Am (Z ⟨g,1,H⟩),J Y 1,Am (Z ⟨g,2,H⟩),J Y 2,Am (Z ⟨g,3,H⟩),J Y 2,Am (Z ⟨g,4,H⟩),J Y 2,Am (Z ⟨g,5,H⟩),J Y 2]:=rfl;rw[show(#[S.pointer (Z ⟨g,0,H⟩),J Y 2,Am (Z ⟨g,1,H⟩),J Y 1,Am (Z ⟨g,2,H⟩),J Y 2,Am (Z ⟨g,3,H⟩),J Y 2,Am (Z ⟨g,4,H⟩),J Y 2,Am (Z ⟨g,5,H⟩),J Y 2]:Array S)=(PY g 6).toArray from rfl];have hh:=Aw w (Ar (PY g 6).toArray 269);have hb:=Ay w (Ar (PY g 6).toArray 269);obtain⟨W1,hW1⟩:=nm ((w.alloc (Ar (PY g 6).toArray 269)).drew);have hb1:At w.heap.size w W1:=by rw[hW1];exact A2 hb 1
 have hf1:Fld W1 w.heap.size g (Ak (Z ⟨w.heap.size,0,H⟩) 6 6) 6:=by
  refine⟨IV g 6,Ba ⟨w.heap.size,6,_,rfl,AB _,by rw[hW1];exact hh,AB _,by decide,by simp[IV],?_⟩⟩;have:=IV g 6;rw[AV (by simp[this])]
 rw[<- hW1];clear hh hb hW1 h6;go_loopw [3,30] (fun u i wr=>∃ j:Nat,j<=6/\i=J Y j/\Hid (Fld wr w.heap.size g u (6+j))/\At w.heap.size w wr) (fun _ i _=>6-(intOf i).toNat)
 case atStart=>exact⟨0,by omega,rfl,hf1,hb1⟩
 case round=>
  obtain⟨j,hj,rfl,HF,hbr⟩:=hrel;clear hf1 hb1;by_cases hlt:j<6
  . have ej:(j:Int)<6:=by omega
    go_wp2_with (at_builtin;refine NH wr g (6+j) (by omega) (by omega) rfl _ _ rfl w.heap.size _ rfl HF.out rfl hbr.size ?_;intro v2 w2 hf2 hb2)
    go_roundw
    case rel=>exact⟨j+1,by omega,by go_num,hf2,hbr.trans hb2⟩
    case measure=>simp[intOf];omega
  . go_wp2
    go_ret;obtain rfl:j=6:=by omega
    exact⟨_,rfl,HF.out,hbr⟩
theorem Fld.shape{w:K}{B g:Nat}{v:S}{n:Nat}(h:Fld w B g v n)(hn:0<n):∃ gf cap,v=Ak (Z ⟨gf,0,H⟩) n cap/\gf<w.heap.size/\B<=gf/\n<=cap/\
 ∀ j,j<n->w.cell? ⟨gf,j*2,H⟩=Z (Am (Z ⟨g,j,H⟩))/\w.cell? ⟨gf,j*2+1,H⟩=Z (J Y (IG j:Int)):=by
 rcases h.2 with⟨_,h0⟩| ⟨gf,cap,cur,hv,hg,hh,Hn,hm,hs,ht⟩
 . omega
 . refine⟨gf,cap,hv,(Al.1 hh).1,hg,Hn,fun j hj=>?_⟩
   obtain⟨h1,h2⟩:=VS g n j hj;rw[<- ht] at h1 h2;rw[Az _ _ _ _ _ _ hh,Az _ _ _ _ _ _ hh];rw[AZ] at h1 h2;rw[AC (by omega)] at h1 h2;exact⟨by simpa using h1,by simpa using h2⟩
theorem Qw(j:Nat):1<=IG j/\IG j<=2:=by unfold IG;split <;> omega
end
end Go.Proofs.YtdefiimcmecnnaaGreat
