/- What the law rests on: part 12. -/
import Derived.Shelf.SlIterI.Nil
import Derived.Shelf.SlMaps.Copy
import Derived.Shelf.SortM.Plain
import Derived.Shelf.SortM.SortNone
import Derived.Shelf.SlGeneric
import Derived.Maps.RangeWalk
import Derived.Test.YtedabomlfcghoaaGreatKF11
set_option linter.unusedVariables false
namespace Go.Proofs.YtedabomlfcghoaaGreat
open Go.RowKit Go.Shelf
def copyM_ren:Go.Shelf.Ren:=⟨fun|5=>74|n=>n,fun|23=>90|24=>90|26=>3|27=>30|0=>0|4=>4|n=>n,fun|n=>n⟩
theorem copyM:Go.Proofs.SlLaysX.n5 Tryz.prog copyM_ren:={
 mixed:=by kernel_rfl,
 f5:=⟨Tryz.f74.name,by decide,Tryz.func74.trans (congrArg some (by kernel_rfl))⟩,
 t0:=Tryz.underlying0,
 a0:=Tryz.isAgg0,
 z0:=Tryz.sizeOf0,
 v0:=Tryz.zeroValue0,
 t4:=Tryz.underlying4,
 a4:=Tryz.isAgg4,
 z4:=Tryz.sizeOf4,
 v4:=Tryz.zeroValue4,
 t23:=Tryz.underlying90,
 a23:=Tryz.isAgg90,
 z23:=Tryz.sizeOf90,
 v23:=Tryz.zeroValue90,
 t24:=Tryz.underlying90,
 a24:=Tryz.isAgg90,
 z24:=Tryz.sizeOf90,
 v24:=Tryz.zeroValue90,
 a26:=Tryz.isAgg3,
 z26:=Tryz.sizeOf3,
 a27:=Tryz.isAgg30,
 z27:=Tryz.sizeOf30 }
def keysM_ren:Go.Shelf.Ren:=⟨fun|7=>160|10=>196|n=>n,fun|23=>90|26=>3|3=>30|28=>228|0=>0|27=>227|33=>103|4=>4|n=>n,fun|n=>n⟩
theorem keysM:Go.Proofs.SlLaysZI.n7 Tryz.prog keysM_ren:={
 mixed:=by kernel_rfl,
 f7:=⟨Tryz.f160.name,by decide,Tryz.func160.trans (congrArg some (by kernel_rfl))⟩,
 f10:=⟨Tryz.f196.name,by decide,Tryz.func196.trans (congrArg some (by kernel_rfl))⟩,
 t0:=Tryz.underlying0,
 a0:=Tryz.isAgg0,
 z0:=Tryz.sizeOf0,
 v0:=Tryz.zeroValue0,
 t4:=Tryz.underlying4,
 a4:=Tryz.isAgg4,
 z4:=Tryz.sizeOf4,
 v4:=Tryz.zeroValue4,
 t23:=Tryz.underlying90,
 a23:=Tryz.isAgg90,
 z23:=Tryz.sizeOf90,
 v23:=Tryz.zeroValue90,
 t26:=Tryz.underlying3,
 a26:=Tryz.isAgg3,
 z26:=Tryz.sizeOf3,
 v26:=Tryz.zeroValue3,
 t27:=Tryz.underlying227,
 a27:=Tryz.isAgg227,
 z27:=Tryz.sizeOf227,
 v27:=Tryz.zeroValue227,
 t28:=Tryz.underlying228,
 a28:=Tryz.isAgg228,
 z28:=Tryz.sizeOf228,
 v28:=Tryz.zeroValue228,
 t33:=Tryz.underlying103,
 a33:=Tryz.isAgg103,
 z33:=Tryz.sizeOf103,
 v33:=Tryz.zeroValue103 }
def sortedM_ren:Go.Shelf.Ren:=⟨fun|6=>159|8=>194|9=>195|11=>208|13=>210|12=>209|23=>224|24=>225|14=>215|15=>216|16=>217|17=>218|18=>219|19=>220|20=>221|21=>222|22=>223|25=>228|26=>229|27=>230|28=>231|29=>232|30=>233|31=>235|n=>n,fun|26=>3|28=>228|24=>176|0=>0|3=>3|37=>56|48=>88|50=>188|4=>4|40=>276|39=>275|45=>203|5=>5|9=>9|51=>284|55=>243|57=>289|58=>114|33=>103|n=>n,fun|n=>n⟩
theorem sortedM:Go.Proofs.SlLaysZI.n6 Tryz.prog sortedM_ren:={
 mixed:=by kernel_rfl,
 f6:=⟨Tryz.f159.name,by decide,Tryz.func159.trans (congrArg some (by kernel_rfl))⟩,
 f8:=⟨Tryz.f194.name,by decide,Tryz.func194.trans (congrArg some (by kernel_rfl))⟩,
 f11:=⟨Tryz.f208.name,by decide,Tryz.func208.trans (congrArg some (by kernel_rfl))⟩,
 t0:=Tryz.underlying0,
 a0:=Tryz.isAgg0,
 z0:=Tryz.sizeOf0,
 v0:=Tryz.zeroValue0,
 t24:=Tryz.underlying176,
 a24:=Tryz.isAgg176,
 z24:=Tryz.sizeOf176,
 v24:=Tryz.zeroValue176,
 t26:=Tryz.underlying3,
 a26:=Tryz.isAgg3,
 z26:=Tryz.sizeOf3,
 v26:=Tryz.zeroValue3,
 t28:=Tryz.underlying228,
 a28:=Tryz.isAgg228,
 z28:=Tryz.sizeOf228,
 v28:=Tryz.zeroValue228,
 i26:=by kernel_rfl }
def sortM_ren:Go.Shelf.Ren:=⟨fun|5=>195|8=>210|7=>209|19=>224|20=>225|10=>215|11=>216|12=>217|13=>218|14=>219|15=>220|16=>221|17=>222|18=>223|30=>228|31=>229|32=>230|33=>231|34=>232|35=>233|40=>235|n=>n,fun|23=>176|25=>3|3=>3|32=>56|22=>176|0=>0|44=>88|46=>188|4=>4|36=>276|35=>275|41=>203|5=>5|9=>9|53=>284|57=>243|63=>289|64=>114|n=>n,fun|n=>n⟩
theorem sortM:Go.Proofs.SlLaysM.n5 Tryz.prog sortM_ren:={
 mixed:=by kernel_rfl,
 f5:=⟨Tryz.f195.name,by decide,Tryz.func195.trans (congrArg some (by kernel_rfl))⟩,
 f7:=⟨Tryz.f209.name,by decide,Tryz.func209.trans (congrArg some (by kernel_rfl))⟩,
 f8:=Tryz.func210.trans (congrArg some (by kernel_rfl)),
 f10:=⟨Tryz.f215.name,by decide,Tryz.func215.trans (congrArg some (by kernel_rfl))⟩,
 f11:=⟨Tryz.f216.name,by decide,Tryz.func216.trans (congrArg some (by kernel_rfl))⟩,
 f12:=⟨Tryz.f217.name,by decide,Tryz.func217.trans (congrArg some (by kernel_rfl))⟩,
 f13:=⟨Tryz.f218.name,by decide,Tryz.func218.trans (congrArg some (by kernel_rfl))⟩,
 f14:=⟨Tryz.f219.name,by decide,Tryz.func219.trans (congrArg some (by kernel_rfl))⟩,
 f15:=⟨Tryz.f220.name,by decide,Tryz.func220.trans (congrArg some (by kernel_rfl))⟩,
 f16:=⟨Tryz.f221.name,by decide,Tryz.func221.trans (congrArg some (by kernel_rfl))⟩,
 f17:=⟨Tryz.f222.name,by decide,Tryz.func222.trans (congrArg some (by kernel_rfl))⟩,
 f18:=⟨Tryz.f223.name,by decide,Tryz.func223.trans (congrArg some (by kernel_rfl))⟩,
 f19:=Tryz.func224.trans (congrArg some (by kernel_rfl)),
 f20:=Tryz.func225.trans (congrArg some (by kernel_rfl)),
 f30:=⟨Tryz.f228.name,by decide,Tryz.func228.trans (congrArg some (by kernel_rfl))⟩,
 f31:=Tryz.func229.trans (congrArg some (by kernel_rfl)),
 f32:=Tryz.func230.trans (congrArg some (by kernel_rfl)),
 f33:=⟨Tryz.f231.name,by decide,Tryz.func231.trans (congrArg some (by kernel_rfl))⟩,
 f34:=⟨Tryz.f232.name,by decide,Tryz.func232.trans (congrArg some (by kernel_rfl))⟩,
 f35:=⟨Tryz.f233.name,by decide,Tryz.func233.trans (congrArg some (by kernel_rfl))⟩,
 f40:=⟨Tryz.f235.name,by decide,Tryz.func235.trans (congrArg some (by kernel_rfl))⟩,
 t0:=Tryz.underlying0,
 a0:=Tryz.isAgg0,
 z0:=Tryz.sizeOf0,
 v0:=Tryz.zeroValue0,
 t3:=Tryz.underlying3,
 a3:=Tryz.isAgg3,
 z3:=Tryz.sizeOf3,
 v3:=Tryz.zeroValue3,
 t4:=Tryz.underlying4,
 a4:=Tryz.isAgg4,
 z4:=Tryz.sizeOf4,
 v4:=Tryz.zeroValue4,
 t5:=Tryz.underlying5,
 a5:=Tryz.isAgg5,
 z5:=Tryz.sizeOf5,
 v5:=Tryz.zeroValue5,
 t9:=Tryz.underlying9,
 a9:=Tryz.isAgg9,
 z9:=Tryz.sizeOf9,
 v9:=Tryz.zeroValue9,
 t22:=Tryz.underlying176,
 a22:=Tryz.isAgg176,
 z22:=Tryz.sizeOf176,
 v22:=Tryz.zeroValue176,
 t23:=Tryz.underlying176,
 a23:=Tryz.isAgg176,
 z23:=Tryz.sizeOf176,
 v23:=Tryz.zeroValue176,
 t25:=Tryz.underlying3,
 a25:=Tryz.isAgg3,
 z25:=Tryz.sizeOf3,
 v25:=Tryz.zeroValue3,
 t32:=Tryz.underlying56,
 a32:=Tryz.isAgg56,
 z32:=Tryz.sizeOf56,
 v32:=Tryz.zeroValue56,
 t35:=Tryz.underlying275,
 a35:=Tryz.isAgg275,
 z35:=Tryz.sizeOf275,
 v35:=Tryz.zeroValue275,
 t36:=Tryz.underlying276,
 a36:=Tryz.isAgg276,
 z36:=Tryz.sizeOf276,
 v36:=Tryz.zeroValue276,
 t41:=Tryz.underlying203,
 a41:=Tryz.isAgg203,
 z41:=Tryz.sizeOf203,
 v41:=Tryz.zeroValue203,
 t44:=Tryz.underlying88,
 a44:=Tryz.isAgg88,
 z44:=Tryz.sizeOf88,
 v44:=Tryz.zeroValue88,
 t46:=Tryz.underlying188,
 a46:=Tryz.isAgg188,
 z46:=Tryz.sizeOf188,
 v46:=Tryz.zeroValue188,
 t53:=Tryz.underlying284,
 a53:=Tryz.isAgg284,
 z53:=Tryz.sizeOf284,
 v53:=Tryz.zeroValue284,
 t57:=Tryz.underlying243,
 a57:=Tryz.isAgg243,
 z57:=Tryz.sizeOf243,
 v57:=Tryz.zeroValue243,
 t63:=Tryz.underlying289,
 a63:=Tryz.isAgg289,
 z63:=Tryz.sizeOf289,
 v63:=Tryz.zeroValue289,
 t64:=Tryz.underlying114,
 a64:=Tryz.isAgg114,
 z64:=Tryz.sizeOf114,
 v64:=Tryz.zeroValue114 }
end Go.Proofs.YtedabomlfcghoaaGreat
namespace Go.Proofs.YtedabomlfcghoaaGreat
set_option maxRecDepth 100000
open Go.RowKit Go.Maps Go.Shelf
def uniN (N M:List Int):List Int:=N ++ M.filter fun x=>decide (x ∉ N)
theorem mem_uniN {N M:List Int}{x:Int}:x∈uniN N M ↔ x∈N\/x∈M:=by
 unfold uniN
 rw[List.mem_append,List.mem_filter,decide_eq_true_eq]
 by_cases h:x∈N
 · simp[h]
 · simp[h]
theorem uniN_nodup {N M:List Int} (h:N.Nodup) (k:M.Nodup):(uniN N M).Nodup:=by
 refine List.nodup_append.2 ⟨h,k.filter _,fun a ha c hc e=>?_⟩
 have:=(List.mem_filter.1 hc).2
 rw[decide_eq_true_eq] at this
 exact this (e ▸ ha)
def sortN (N:List Int):List Int:=N.mergeSort leI
theorem sortN_perm (N:List Int):(sortN N).Perm N:=List.mergeSort_perm N leI
theorem sortN_length (N:List Int):(sortN N).length=N.length:=(sortN_perm N).length_eq
theorem mem_sortN {N:List Int}{x:Int}:x∈sortN N ↔ x∈N:=(sortN_perm N).mem_iff
theorem sortN_nodup {N:List Int} (h:N.Nodup):(sortN N).Nodup:=(sortN_perm N).nodup_iff.2 h
theorem mCopy_of {w:World}{bd bs:Nat}{N M:List Int}{g h:Int->Value} (hd:Mp w bd N g) (hs:Mp w bs M h) (hne:bd≠bs) (hroom:N.length+M.length<=1000000):
 Calls Tryz.prog 74 #[.map (some bd),.map (some bs)] w fun e w'=>e=.returned (.tuple #[])/\Mp w' bd (uniN N M) (fun x=>if x∈M then h x else g x)/\Mp w' bs M h/\w.grownBy w' (some bd):=by
 obtain ⟨Dd,d1,d2,d3,d4,d5⟩:=hd
 obtain ⟨Ds,s1,s2,s3,s4,s5⟩:=hs
 have hsz:=(owns_size s1 s2 s4).2
 have hcon:=AnyX.maps_Copy copyM iKeyed hdr bd bs N.length M.length Dd Ds w d1 s1 hne (by rw[hsz];simp only[maxLen];omega)
 change Calls Tryz.prog 74 _ _ _ at hcon
 refine hcon.mono ?_
 rintro e w' ⟨he,h1,h2,h3⟩
 refine ⟨he,?_,⟨Ds,h2,s2,s3,s4,s5⟩,h3⟩
 obtain ⟨es,rfl,hp,hk⟩:=s1.entries iKeyed
 have hm:=d1.isMap
 have hhas:∀ k,Maps.has (Lib.mergeD Dd (.map es)) k=(Maps.has Dd k || Maps.has (.map es) k):=fun k=>Maps.has_foldPut k es Dd hm hk
 refine owns_mp h1 (uniN_nodup d2 s2) ?_ ?_ ?_
 · intro x hx
   exact (mem_uniN.1 hx).elim (d3 x) (s3 x)
 · intro x
   rw[hhas,d4 x,s4 x]
   by_cases ha:x∈N
   · rw[decide_eq_true ha,decide_eq_true (mem_uniN.2 (.inl ha))];rfl
   · by_cases hb:x∈M
     · rw[decide_eq_true hb,decide_eq_true (mem_uniN.2 (.inr hb)),Bool.or_true]
     · rw[decide_eq_false ha,decide_eq_false hb,decide_eq_false (fun e=>(mem_uniN.1 e).elim ha hb)];rfl
 · intro x hx
   by_cases hb:x∈M
   · obtain ⟨d,hd,ha⟩:=s5 x hb
     refine ⟨d,by rw[if_pos hb];exact hd,fun z=>?_⟩
     have hat:=Maps.atKey_foldPut (.int .i64 x) z es Dd hm hk hp
     have h0:(DataW.map es).atKey (.int .i64 x) z=d:=ha z
     show (es.foldl (fun D p=>D.put p.1 p.2) Dd).atKey (.int .i64 x) z=d
     cases hf:es.find? (fun p=>p.1.sameKey (.int .i64 x)) with
     |none=>
      have hh:=s4 x
      rw[decide_eq_true hb,Maps.has_eq,List.any_eq_true] at hh
      obtain ⟨p,hp1,hp2⟩:=hh
      have:=List.find?_eq_none.1 hf p hp1
      rw[hp2] at this;exact absurd rfl this
     |some p=>
      rw[hf] at hat
      simp only[DataW.atKey,hf] at h0
      rw[hat]
      exact h0
   · have ha:=(mem_uniN.1 hx).resolve_right hb
     obtain ⟨d,hd,hz⟩:=d5 x ha
     refine ⟨d,by rw[if_neg hb];exact hd,fun z=>?_⟩
     have hat:=Maps.atKey_foldPut (.int .i64 x) z es Dd hm hk hp
     show (es.foldl (fun D p=>D.put p.1 p.2) Dd).atKey (.int .i64 x) z=d
     have hf:es.find? (fun p=>p.1.sameKey (.int .i64 x))=none:=List.find?_eq_none.2 fun p hp1 hp2=>by
      have hh:=s4 x
      rw[decide_eq_false hb,Maps.has_eq] at hh
      have:=List.any_eq_false.1 hh p hp1
      exact this hp2
     rw[hf] at hat
     rw[hat]
     exact hz z
theorem mKeys_of (b:Nat) (w:World):Calls Tryz.prog 160 #[.map (some b)] w fun e w'=>e=.returned (.func (.func 196) #[] #[.pointer (some ⟨w.heap.size,0,none⟩)])/\w'=w.alloc (.cells #[.map (some b)] 90):=by
 have h:=(callsIn_wide (n:=5)).1 (AnyZI.keys_in keysM Fence.wide 5 trivial rfl (some b) w)
 exact h
theorem sortsM (m:Nat):AnyZI.SortsIn Tryz.prog sortedM_ren Fence.wide m:=
 ⟨fun blk off cap ss W hH hblk hsz=>callsIn_wide.2 (AnyM.slices_Sort_int sortM blk off cap ss W hH hblk hsz),
  fun p cap W=>callsIn_wide.2 (AnyM.slices_Sort_int_none sortM p cap W)⟩
theorem slSorted_of {w:World}{b p:Nat}{N:List Int}{g:Int->Value} (h:Mp w b N g) (hp:w.heap[p]? =some (.cells #[.map (some b)] 90 (0,0))) (hN:N.length<=1000000):
 Calls Tryz.prog 159 #[.func (.func 196) #[] #[.pointer (some ⟨p,0,none⟩)]] w fun e w'=>∃ v,e=.returned v/\IR w' w.heap.size v (sortN N)/\Below w.heap.size w w':=by
 obtain ⟨D,d1,d2,d3,d4,d5⟩:=h
 obtain ⟨hperm,hsz⟩:=owns_size d1 d2 d4
 have hpl:p<w.heap.size:=(Array.getElem?_eq_some_iff.1 hp).1
 have hc:w.cell? ⟨p,0,none⟩=some (.map (some b)):=by rw[cell_of_row _ _ _ _ _ _ hp];rfl
 have hseq:SeqGives Fence.wide 2 Tryz.prog 196 #[.pointer (some ⟨p,0,none⟩)] encZ (fun ss=>ss.Perm (intKeys D)) (Maps.size D) w:=
  AnyZI.keys_gives (ρ:=keysM_ren) { keysM with } Fence.wide _ trivial rfl (by omega) p b N.length D w hpl hc d1
 have cS:=AnyZI.sorted_in sortedM Fence.wide 5 trivial trivial trivial trivial rfl (by omega) (sortsM _) (enters_of Tryz.func195 (by kernel_rfl) rfl) 196 #[.pointer (some ⟨p,0,none⟩)] trivial (enters_of Tryz.func196 (by kernel_rfl) rfl) _ _ (by rw[hsz];simp only[maxLen];omega) (by rw[hsz];omega) w hseq
 change CallsIn _ _ Tryz.prog 159 _ _ _ at cS
 refine (callsIn_wide.1 cS).mono ?_
 rintro e w' ⟨v,ss,he,hS,hrow,hnil,hb⟩
 have e1:ss.mergeSort (fun x y=>decide (x<=y))=sortN N:=mergeSort_of_perm_i (hS.trans hperm.symm)
 have e2:ss.length=(sortN N).length:=by rw[sortN_length,hS.length_eq,hperm.length_eq]
 rw[e1,e2] at hrow
 refine ⟨v,he,?_,hb⟩
 exact hrow
end Go.Proofs.YtedabomlfcghoaaGreat
namespace Go.Proofs.YtedabomlfcghoaaGreat
set_option maxRecDepth 100000
open Go.RowKit
structure Ext (P:Nat->Prop) (w w':World):Prop where
 os:w'.os=w.os
 tape:w'.tape=w.tape
 output:w'.output=w.output
 size:w.heap.size<=w'.heap.size
 keep:∀ k,k<w.heap.size->¬ P k->w'.heap[k]? =w.heap[k]?
def grP (P:Nat->Prop) (w w':World) (k:Nat):Prop:=P k\/(w.heap.size<=k/\k<w'.heap.size)
theorem Ext.trans {P P2:Nat->Prop}{a b c:World} (h:Ext P a b) (k:Ext P2 b c) (hp:∀ x,x<a.heap.size->P2 x->P x):Ext P a c:=
 ⟨k.os.trans h.os,k.tape.trans h.tape,k.output.trans h.output,Nat.le_trans h.size k.size,fun i hi hn=>(k.keep i (Nat.lt_of_lt_of_le hi h.size) fun e=>hn (hp i hi e)).trans (h.keep i hi hn)⟩
theorem Ext.of_below {P:Nat->Prop}{w w':World} (h:Below w.heap.size w w'):Ext P w w':=⟨h.os,h.tape,h.output,h.size,fun k hk _=>h.block k hk⟩
theorem Ext.of_chg {P Q Q':Nat->Prop}{w w':World} (h:Chg Q Q' w w') (hp:∀ x,Q x->P x):Ext P w w':=⟨h.os,h.tape,h.output,h.size,fun k hk hn=>(h.keep k hk fun e=>hn (hp k e)).1⟩
theorem Ext.of_grown {P:Nat->Prop}{w w':World}{b:Nat} (h:w.grownBy w' (some b)) (hp:P b):Ext P w w':=⟨h.os,h.tape,h.output,h.size,fun k hk hn=>h.block k hk fun e=>hn (by cases e;exact hp)⟩
theorem Ext.of_wrote {P:Nat->Prop}{w w':World}{b:Nat} (h:Wrote w w' b) (hp:P b):Ext P w w':=⟨h.1,h.2.1,h.2.2.1,Nat.le_of_eq h.2.2.2.1.symm,fun k _ hn=>h.2.2.2.2 k fun e=>hn (e ▸ hp)⟩
theorem Ext.chg {P:Nat->Prop}{w w':World} (h:Ext P w w'):Chg P (grP P w w') w w':=⟨h.os,h.tape,h.output,h.size,fun k hk hn=>⟨h.keep k hk hn,fun e=>e.elim hn fun e=>absurd e.1 (by omega)⟩⟩
theorem Ext.sub {P Q:Nat->Prop}{w w':World} (h:Ext P w w') (hp:∀ x,P x->Q x):Ext Q w w':=⟨h.os,h.tape,h.output,h.size,fun k hk hn=>h.keep k hk fun e=>hn (hp k e)⟩
theorem chg_new {P P':Nat->Prop}{w w':World} (h:Chg P P' w w') {k:Nat} (hk:P' k):P k\/w.heap.size<=k:=by
 by_cases hl:k<w.heap.size
 · by_cases hp:P k
   · exact .inl hp
   · exact absurd hk (h.keep k hl hp).2
 · exact .inr (by omega)
theorem Dk.same {w w':World}{P:Nat->Prop}{p:Value}{s:DS} (h:Dk w P p s) (hk:∀ k,P k->w'.heap[k]? =w.heap[k]?):Dk w' P p s:=by
 obtain ⟨bp,bf,bv,u,hp,hd,hl,hP⟩:=h
 refine ⟨bp,bf,bv,u,hp,{ hd with hp:=?_,hf:=?_,hv:=?_,hu:=ownsRow_keep hd.hu fun g hg=>hk g ((hP g).2 (.inr (.inr (.inr hg)))) },hl,hP⟩
 · rw[hk _ ((hP _).2 (.inl rfl))];exact hd.hp
 · rw[hk _ ((hP _).2 (.inr (.inl rfl)))];exact hd.hf
 · rw[hk _ ((hP _).2 (.inr (.inr (.inl rfl))))];exact hd.hv
def Blo (w:World) (v:Value) (l:List Int):Prop:=OB w 0 v l/\l.length=256
theorem Blo.row {w:World}{v:Value}{l:List Int} (h:Blo w v l):∃ g cap cur,v=.slice (some ⟨g,0,none⟩) 256 cap/\w.heap[g]? =some (.cells cur 5 (0,0)):=by
 rcases h.1.2.2 with ⟨_,h0⟩| ⟨g,cap,cur,hv,_,hh,_⟩
 · rw[h.2] at h0;cases h0
 · exact ⟨g,cap,cur,by rw[hv,h.2],hh⟩
theorem Blo.hdr {w:World}{v:Value}{l:List Int} (h:Blo w v l):∃ d,hdr v=some (d,[]):=by
 obtain ⟨g,cap,cur,rfl,_⟩:=h.row
 exact ⟨_,hdr_some g 0 256 cap⟩
theorem Blo.keep {w w':World}{v:Value}{l:List Int} (h:Blo w v l) (hk:∀ g,v.ownBlock=some g->w'.heap[g]? =w.heap[g]?):Blo w' v l:=⟨⟨h.1.1,ownsRow_keep h.1.2 hk⟩,h.2⟩
theorem Blo.lt {w:World}{v:Value}{l:List Int} (h:Blo w v l) {g:Nat} (hg:v.ownBlock=some g):g<w.heap.size:=(World.ownsRow.lt h.1.2 g hg).2
theorem Blo.at {w:World}{v:Value}{l:List Int} (h:Blo w v l) {g:Nat} (hg:v.ownBlock=some g):∃ cur,w.heap[g]? =some (.cells cur 5 (0,0)):=by
 obtain ⟨g',cap,cur,rfl,hh⟩:=h.row
 obtain rfl:g'=g:=by simpa [Value.ownBlock] using hg
 exact ⟨cur,hh⟩
def SOwn (Pd:Nat->Prop) (b be bp:Nat) (ek:List Int) (eg:Int->Value) (pk:List Int) (pg:Int->Value) (k:Nat):Prop:=
 Pd k\/k=b\/k=be\/k=bp\/(∃ x,x∈ek/\(eg x).ownBlock=some k)\/∃ x,x∈pk/\(pg x).ownBlock=some k
structure SMem (w:World) (Pd:Nat->Prop) (b be bp:Nat) (d:Value) (q:Int) (ek:List Int) (eg:Int->Value) (ev:Int->List Int) (pk:List Int) (pg:Int->Value) (pv:Int->List Int) (wi:Bool) (ds:DS):Prop where
 hb:w.heap[b]? =some (.cells #[d,.int .u32 q,.map (some be),.map (some bp),.bool wi,.bool false] 92 (0,0))
 dk:Dk w Pd d ds
 q0:0<=q/\q<4294967296
 me:Mp w be ek eg
 mp:Mp w bp pk pg
 ne:be≠bp
 re:∀ x∈ek,Blo w (eg x) (ev x)
 rp:∀ x∈pk,Blo w (pg x) (pv x)
def inK (n:Nat) (x:Int):Prop:=0<=x/\x<n/\OutJ x.toNat
structure SPl (X:XSt) (ek:List Int) (ev:Int->List Int) (pk:List Int) (pv:Int->List Int):Prop where
 ok:XOk X
 n64:64<=X.is.length/\X.is.length<=768
 u0:X.ds.U=[]
 ki:∀ x∈ek,inK X.is.length x
 kp:∀ x∈pk,inK X.is.length x
 el:ek.length<=37
 pl:pk.length<=37
 dt:X.dt=ek.length
 isx:∀ i,OutJ i->i<X.is.length->X.is.getD i []=if (i:Int)∈ek then ev i else X.base.getD i []
 wi0:X.wi=false->pk=[]
 wi1:X.wi=true->X.put=pk/\X.call.length=X.is.length/\∀ i,OutJ i->i<X.is.length->X.call.getD i []=if (i:Int)∈pk then pv i else X.is.getD i []
def SInv (w:World) (P:Nat->Prop) (d p:Value) (X:XSt):Prop:=
 ∃ b be bp Pd q ek eg ev pk pg pv,p=.pointer (some ⟨b,0,none⟩)/\SMem w Pd b be bp d q ek eg ev pk pg pv X.wi X.ds/\SPl X ek ev pk pv/\(∀ k,SOwn Pd b be bp ek eg pk pg k->P k)/\∀ k,P k->k<w.heap.size
def SDead (w:World) (P:Nat->Prop) (d p:Value) (ds:DS):Prop:=
 ∃ b Pd,p=.pointer (some ⟨b,0,none⟩)/\w.heap[b]? =some (.cells #[.pointer none,.int .u32 0,.map none,.map none,.bool false,.bool true] 92 (0,0))/\Dk w Pd d ds/\(∀ k,Pd k\/k=b->P k)/\∀ k,P k->k<w.heap.size
section
variable {w:World}{Pd:Nat->Prop}{b be bp:Nat}{d:Value}{q:Int}{ek:List Int}{eg:Int->Value}{ev:Int->List Int}{pk:List Int}{pg:Int->Value}{pv:Int->List Int}{wi:Bool}{ds:DS}
theorem SMem.bl (h:SMem w Pd b be bp d q ek eg ev pk pg pv wi ds):b<w.heap.size:=(Array.getElem?_eq_some_iff.1 h.hb).1
theorem SMem.lt (h:SMem w Pd b be bp d q ek eg ev pk pg pv wi ds) (k:Nat) (hk:SOwn Pd b be bp ek eg pk pg k):k<w.heap.size:=by
 rcases hk with hk|rfl|rfl|rfl| ⟨x,hx,hg⟩| ⟨x,hx,hg⟩
 · exact h.dk.lt k hk
 · exact h.bl
 · exact h.me.lt
 · exact h.mp.lt
 · exact (h.re x hx).lt hg
 · exact (h.rp x hx).lt hg
theorem SMem.same (h:SMem w Pd b be bp d q ek eg ev pk pg pv wi ds) {w':World} (hk:∀ k,SOwn Pd b be bp ek eg pk pg k->w'.heap[k]? =w.heap[k]?):SMem w' Pd b be bp d q ek eg ev pk pg pv wi ds:=
 ⟨by rw[hk b (.inr (.inl rfl))];exact h.hb,h.dk.same fun k hp=>hk k (.inl hp),h.q0,h.me.keep (hk be (.inr (.inr (.inl rfl)))),h.mp.keep (hk bp (.inr (.inr (.inr (.inl rfl))))),h.ne,
   fun x hx=>(h.re x hx).keep fun g hg=>hk g (.inr (.inr (.inr (.inr (.inl ⟨x,hx,hg⟩))))),fun x hx=>(h.rp x hx).keep fun g hg=>hk g (.inr (.inr (.inr (.inr (.inr ⟨x,hx,hg⟩)))))⟩
theorem SMem.below (h:SMem w Pd b be bp d q ek eg ev pk pg pv wi ds) {w':World} (hb:Below w.heap.size w w'):SMem w' Pd b be bp d q ek eg ev pk pg pv wi ds:=h.same fun k hk=>hb.block k (h.lt k hk)
theorem SMem.ci (h:SMem w Pd b be bp d q ek eg ev pk pg pv wi ds) (i:Nat):w.cell? ⟨b,i,none⟩=(#[d,.int .u32 q,.map (some be),.map (some bp),.bool wi,.bool false]:Array Value)[i]? :=cell_of_row _ _ _ _ _ _ h.hb
theorem SMem.fr (h:SMem w Pd b be bp d q ek eg ev pk pg pv wi ds) (i:Nat):w.frozen? ⟨b,i,none⟩=false:=by simp[World.frozen?,h.hb]
theorem SMem.c0 (h:SMem w Pd b be bp d q ek eg ev pk pg pv wi ds):w.cell? ⟨b,0,none⟩=some d:=h.ci 0
theorem SMem.c1 (h:SMem w Pd b be bp d q ek eg ev pk pg pv wi ds):w.cell? ⟨b,1,none⟩=some (.int .u32 q):=h.ci 1
theorem SMem.c2 (h:SMem w Pd b be bp d q ek eg ev pk pg pv wi ds):w.cell? ⟨b,2,none⟩=some (.map (some be)):=h.ci 2
theorem SMem.c3 (h:SMem w Pd b be bp d q ek eg ev pk pg pv wi ds):w.cell? ⟨b,3,none⟩=some (.map (some bp)):=h.ci 3
theorem SMem.c4 (h:SMem w Pd b be bp d q ek eg ev pk pg pv wi ds):w.cell? ⟨b,4,none⟩=some (.bool wi):=h.ci 4
theorem SMem.c5 (h:SMem w Pd b be bp d q ek eg ev pk pg pv wi ds):w.cell? ⟨b,5,none⟩=some (.bool false):=h.ci 5
theorem SMem.nd (h:SMem w Pd b be bp d q ek eg ev pk pg pv wi ds):¬ Pd b:=h.dk.not h.hb (by decide) (by decide) (by decide)
theorem dk_not_map {P:Nat->Prop}{p:Value}{s:DS} (h:Dk w P p s) {k:Nat}{es:Array MapEntry}{cl:Nat} (hk:w.heap[k]? =some (.map es cl)):¬ P k:=fun hp=>by
 obtain ⟨_,_,he,_⟩:=h.types k hp
 rw[hk] at he;cases he
theorem Mp.nd {P:Nat->Prop}{p:Value}{s:DS}{m:Nat}{N:List Int}{g:Int->Value} (h:Dk w P p s) (hm:Mp w m N g):¬ P m:=by
 obtain ⟨_,⟨es,cl,hh,_⟩,_⟩:=hm
 exact dk_not_map h hh
theorem SMem.nb (h:SMem w Pd b be bp d q ek eg ev pk pg pv wi ds):be≠b/\bp≠b:=⟨h.me.not_cells h.hb,h.mp.not_cells h.hb⟩
theorem Blo.ne {v:Value}{l:List Int} (hv:Blo w v l) {g:Nat} (hg:v.ownBlock=some g) {k:Nat}{cs:Array Value}{T:TypeId}{z:Nat × Nat} (hk:w.heap[k]? =some (.cells cs T z)) (hT:T≠5):g≠k:=fun e=>by
 obtain ⟨cur,hh⟩:=hv.at hg
 rw[e,hk] at hh
 injection hh with hh
 injection hh with _ e2
 exact hT e2
theorem Blo.nm {v:Value}{l:List Int} (hv:Blo w v l) {g:Nat} (hg:v.ownBlock=some g) {m:Nat}{N:List Int}{gg:Int->Value} (hm:Mp w m N gg):g≠m:=fun e=>by
 obtain ⟨cur,hh⟩:=hv.at hg
 exact hm.not_cells hh e.symm
theorem Blo.nd {v:Value}{l:List Int} (hv:Blo w v l) {g:Nat} (hg:v.ownBlock=some g) {P:Nat->Prop}{p:Value}{s:DS} (h:Dk w P p s):¬ P g:=by
 obtain ⟨cur,hh⟩:=hv.at hg
 exact h.not hh (by decide) (by decide) (by decide)
theorem SMem.disk (h:SMem w Pd b be bp d q ek eg ev pk pg pv wi ds) {w':World}{Pd':Nat->Prop}{ds':DS} (hd:Dk w' Pd' d ds') (hc:Chg Pd Pd' w w'):SMem w' Pd' b be bp d q ek eg ev pk pg pv wi ds':=
 ⟨by rw[(hc.keep b h.bl h.nd).1];exact h.hb,hd,h.q0,h.me.keep (hc.keep be h.me.lt (Mp.nd h.dk h.me)).1,h.mp.keep (hc.keep bp h.mp.lt (Mp.nd h.dk h.mp)).1,h.ne,
   fun x hx=>(h.re x hx).keep fun g hg=>(hc.keep g ((h.re x hx).lt hg) ((h.re x hx).nd hg h.dk)).1,fun x hx=>(h.rp x hx).keep fun g hg=>(hc.keep g ((h.rp x hx).lt hg) ((h.rp x hx).nd hg h.dk)).1⟩
end
theorem SInv.keep {w w':World}{P:Nat->Prop}{d p:Value}{X:XSt} (h:SInv w P d p X) (hs:w.heap.size<=w'.heap.size) (hk:∀ k,P k->w'.heap[k]? =w.heap[k]?):SInv w' P d p X:=by
 obtain ⟨b,be,bp,Pd,q,ek,eg,ev,pk,pg,pv,hp,hm,hpl,ho,hl⟩:=h
 exact ⟨b,be,bp,Pd,q,ek,eg,ev,pk,pg,pv,hp,hm.same fun k h=>hk k (ho k h),hpl,ho,fun k h=>Nat.lt_of_lt_of_le (hl k h) hs⟩
theorem SDead.keep {w w':World}{P:Nat->Prop}{d p:Value}{ds:DS} (h:SDead w P d p ds) (hs:w.heap.size<=w'.heap.size) (hk:∀ k,P k->w'.heap[k]? =w.heap[k]?):SDead w' P d p ds:=by
 obtain ⟨b,Pd,hp,hb,hd,ho,hl⟩:=h
 exact ⟨b,Pd,hp,by rw[hk b (ho b (.inr rfl))];exact hb,hd.same fun k h=>hk k (ho k (.inl h)),ho,fun k h=>Nat.lt_of_lt_of_le (hl k h) hs⟩
theorem sLoggable_is (w:World) (n:Int):Calls Tryz.prog 115 #[.int .i64 n] w fun e w'=>e=.returned (.bool (decide (n<768)))/\w=w':=by
 go_enter Tryz.func115,Tryz.ntmps115
 go_wp2
 go_ret
 trivial
section
variable {w:World}{Pd:Nat->Prop}{b be bp:Nat}{d:Value}{q:Int}{ek:List Int}{eg:Int->Value}{ev:Int->List Int}{pk:List Int}{pg:Int->Value}{pv:Int->List Int}{wi:Bool}{ds:DS}
theorem sUsable_is (h:SMem w Pd b be bp d q ek eg ev pk pg pv wi ds):Calls Tryz.prog 65 #[.pointer (some ⟨b,0,none⟩)] w fun e w'=>e=.returned (.int .i64 0)/\w=w':=by
 have c5:=h.c5
 clear h
 go_enter Tryz.func65,Tryz.ntmps65
 go_wp2
 go_ret
 exact ⟨rfl,rfl⟩
theorem sAllows_is (h:SMem w Pd b be bp d q ek eg ev pk pg pv wi ds) (x:Bool):Calls Tryz.prog 37 #[.pointer (some ⟨b,0,none⟩),.bool x] w fun e w'=>e=.returned (.int .i64 (if wi=x then 0 else 17))/\w=w':=by
 have KU:=Lib.hid (sUsable_is h)
 have c4:=h.c4
 clear h
 go_enter Tryz.func37,Tryz.ntmps37
 go_wp2_with (go_at_call 65;refine KU.out.mono ?_;rintro e w' ⟨rfl,rfl⟩)
 all_goals (cases wi <;> cases x <;> simp_all <;> go_ret <;> exact ⟨rfl,rfl⟩)
theorem sHas_is (h:SMem w Pd b be bp d q ek eg ev pk pg pv wi ds) (n:Int):Calls Tryz.prog 104 #[.pointer (some ⟨b,0,none⟩),.int .i64 n] w fun e w'=>e=.returned (.bool (decide (0<=n/\n<ds.F.length)))/\w=w':=by
 have KB:=Lib.hid (kBlocks h.dk)
 have c0:=h.c0
 clear h
 by_cases h0:0<=n
 · have e1:decide (0<=n/\n<ds.F.length)=decide (n<ds.F.length):=by simp[h0]
   rw[e1]
   go_enter Tryz.func104,Tryz.ntmps104
   go_wp2_with (go_at_call 149;refine KB.out.mono ?_;rintro e w' ⟨rfl,rfl⟩)
   go_ret
   exact ⟨rfl,rfl⟩
 · have e1:decide (0<=n/\n<ds.F.length)=false:=by simp[h0]
   rw[e1]
   go_enter Tryz.func104,Tryz.ntmps104
   go_wp2_with (go_at_call 149;refine KB.out.mono ?_;rintro e w' ⟨rfl,rfl⟩)
   go_ret
   exact ⟨rfl,rfl⟩
theorem sChanged_is (h:SMem w Pd b be bp d q ek eg ev pk pg pv wi ds) {n:Int} (hn:(Lit.int .i64 n).wf=true):Calls Tryz.prog 105 #[.pointer (some ⟨b,0,none⟩),.int .i64 n] w fun e w'=>
 e=.returned (.tuple #[if n∈pk then pg n else if n∈ek then eg n else .slice none 0 0,.bool (decide (n∈pk) || decide (n∈ek))])/\w=w':=by
 have c2:=h.c2
 have c3:=h.c3
 have le:=h.me.look_ok hn
 have lp:=h.mp.look_ok hn
 clear h
 obtain ⟨x,hx⟩:∃ x,x=(if n∈ek then eg n else .slice none 0 0):=⟨_,rfl⟩
 obtain ⟨y,hy⟩:∃ y,y=(if n∈pk then pg n else .slice none 0 0):=⟨_,rfl⟩
 obtain ⟨xb,hxb⟩:∃ xb,xb=decide (n∈ek):=⟨_,rfl⟩
 rw[<- hx,<- hxb] at le
 rw[<- hy] at lp
 by_cases hp:n∈pk
 · rw[if_pos hp] at hy |-
   rw[decide_eq_true hp] at lp |-
   rw[<- hy]
   clear hp hx hxb hy le
   go_enter Tryz.func105,Tryz.ntmps105
   go_wp2
   go_ret2
   exact ⟨rfl,rfl⟩
 · rw[if_neg hp]
   rw[decide_eq_false hp] at lp |-
   rw[<- hx,<- hxb]
   clear hp hx hxb hy
   go_enter Tryz.func105,Tryz.ntmps105
   go_wp2
   go_ret2
   exact ⟨rfl,rfl⟩
end
theorem sizeSt:(Tryz.prog.info? 92).map (·.size)=some 6:=by kernel_rfl
theorem wpList_store_st {ops:Array Oper}{rest:List Oper}{o:Oper}{a:Act}{w:World}{Q:Exit->Act->World->Prop} (hgd:o.guard=none) (x y:Operand) (ho:o.op=.store 92 x y)
 (g:Nat) (hx:a.eval x=.pointer (some ⟨g,0,none⟩)) (c0 c1 c2 c3 c4 c5 d0 d1 d2 d3 d4 d5:Value) (hy:a.eval y=.agg #[d0,d1,d2,d3,d4,d5]) (h0:d0.oneCell'=true) (h1:d1.oneCell'=true) (h2:d2.oneCell'=true) (h3:d3.oneCell'=true) (h4:d4.oneCell'=true) (h5:d5.oneCell'=true)
 (hg:w.heap[g]? =some (.cells #[c0,c1,c2,c3,c4,c5] 92 (0,0)))
 (h:∀ w',Wrote w w' g->w'.heap[g]? =some (.cells #[d0,d1,d2,d3,d4,d5] 92 (0,0))->wpList Tryz.prog ops Q rest (a.put o.dst undef) w'):wpList Tryz.prog ops Q (o :: rest) a w:=
 wpList_store_row hgd 92 x y ho g #[d0,d1,d2,d3,d4,d5] hx hy 92 _ hg sizeSt rfl (by simp[h0,h1,h2,h3,h4,h5]) (h _ (Wrote.setRow _ _ _) (setRow_heap _ _ _ _ _ _ hg))
theorem sMet_ok (p:Value) (w:World) (e:Int) (he:e≠2):Calls Tryz.prog 108 #[p,.int .i64 e] w fun e' w'=>e'=.returned (.int .i64 e)/\w=w':=by
 go_enter Tryz.func108,Tryz.ntmps108
 go_wp2
 go_ret
 exact ⟨rfl,rfl⟩
section
variable {w:World}{Pd:Nat->Prop}{b be bp:Nat}{d:Value}{q:Int}{ek:List Int}{eg:Int->Value}{ev:Int->List Int}{pk:List Int}{pg:Int->Value}{pv:Int->List Int}{wi:Bool}{ds:DS}
theorem sMet_io (h:SMem w Pd b be bp d q ek eg ev pk pg pv wi ds):Calls Tryz.prog 108 #[.pointer (some ⟨b,0,none⟩),.int .i64 2] w fun e w'=>e=.returned (.int .i64 2)/\Wrote w w' b/\w'.heap[b]? =some (.cells #[.pointer none,.int .u32 0,.map none,.map none,.bool false,.bool true] 92 (0,0)):=by
 have hb:=h.hb
 clear h
 go_enter Tryz.func108,Tryz.ntmps108
 go_wp2_with (refine wpList_store_st rfl _ _ (by rfl) b (by rfl) _ _ _ _ _ _ _ _ _ _ _ _ (by rfl) rfl rfl rfl rfl rfl rfl hb ?_;intro w2 hw2 hb2)
 go_ret
 exact ⟨rfl,hw2,hb2⟩
end
theorem SMem.setwi {w w':World}{Pd:Nat->Prop}{b be bp:Nat}{d:Value}{q:Int}{ek:List Int}{eg:Int->Value}{ev:Int->List Int}{pk:List Int}{pg:Int->Value}{pv:Int->List Int}{wi wi':Bool}{ds:DS} (h:SMem w Pd b be bp d q ek eg ev pk pg pv wi ds)
 (hw:Wrote w w' b) (hb:w'.heap[b]? =some (.cells #[d,.int .u32 q,.map (some be),.map (some bp),.bool wi',.bool false] 92 (0,0))):SMem w' Pd b be bp d q ek eg ev pk pg pv wi' ds:=
 ⟨hb,h.dk.same fun k hk=>hw.2.2.2.2 k fun e=>h.nd (e ▸ hk),h.q0,h.me.keep (hw.2.2.2.2 be h.nb.1),h.mp.keep (hw.2.2.2.2 bp h.nb.2),h.ne,
   fun x hx=>(h.re x hx).keep fun g hg=>hw.2.2.2.2 g ((h.re x hx).ne hg h.hb (by decide)),fun x hx=>(h.rp x hx).keep fun g hg=>hw.2.2.2.2 g ((h.rp x hx).ne hg h.hb (by decide))⟩
theorem setCell_row4 {w:World}{b:Nat}{c0 c1 c2 c3 c4 c5:Value}{T:TypeId} (h:w.heap[b]? =some (.cells #[c0,c1,c2,c3,c4,c5] T (0,0))) (x:Value):(w.setCell ⟨b,4,none⟩ x).heap[b]? =some (.cells #[c0,c1,c2,c3,x,c5] T (0,0)):=by
 rw[heap_setCell_same w b 4 _ _ x h]
 rfl
section
variable {w:World}{P:Nat->Prop}{d p:Value}{X:XSt}
theorem sBegin_of (h:SInv w P d p X):Calls Tryz.prog 18 #[p] w (XOut SInv w P d p (xBegin X)):=by
 obtain ⟨b,be,bp,Pd,q,ek,eg,ev,pk,pg,pv,rfl,hm,hpl,ho,hl⟩:=h
 unfold xBegin XOut
 cases hw:X.wi
 · have KA:=Lib.hid (sAllows_is hm false)
   rw[hw] at KA
   have HB:=Lib.hid hm.hb
   have c4:=hm.c4
   have f4:=hm.fr 4
   rw[hw] at c4
   refine Calls.mono (R:=fun e w'=>e=.returned (.int .i64 0)/\w'=w.setCell ⟨b,4,none⟩ (.bool true)) ?_ ?_
   · clear hm hpl ho hl hw HB
     go_enter Tryz.func18,Tryz.ntmps18
     go_wp2_with (go_at_call 37;refine KA.out.mono ?_;rintro e w' ⟨rfl,rfl⟩)
     go_ret
     exact ⟨rfl,rfl⟩
   · rintro e w' ⟨rfl,rfl⟩
     have hwr:=Wrote.setCell w b 4 (.bool true)
     have hm':=hm.setwi (wi':=true) hwr (setCell_row4 HB.out _)
     refine ⟨rfl,P,⟨b,be,bp,Pd,q,ek,eg,ev,pk,pg,pv,rfl,hm',?_,ho,fun k hk=>by rw[hwr.2.2.2.1];exact hl k hk⟩,?_⟩
     · have hp0:=hpl.wi0 hw
       refine { hpl with ok:={ hpl.ok with call:=fun _=>rfl },wi0:=fun e=>(by cases e),wi1:=fun _=>⟨hp0.symm,rfl,fun i _ _=>?_⟩ }
       rw[hp0,if_neg List.not_mem_nil];rfl
     · exact ⟨hwr.1,hwr.2.1,hwr.2.2.1,Nat.le_of_eq hwr.2.2.2.1.symm,fun k _ hn=>⟨hwr.2.2.2.2 k fun e=>hn (e ▸ ho b (.inr (.inl rfl))),hn⟩⟩
 · have KA:=Lib.hid (sAllows_is hm false)
   rw[hw] at KA
   refine Calls.mono (R:=fun e w'=>e=.returned (.int .i64 17)/\w=w') ?_ ?_
   · clear hm hpl ho hl hw
     go_enter Tryz.func18,Tryz.ntmps18
     go_wp2_with (go_at_call 37;refine KA.out.mono ?_;rintro e w' ⟨rfl,rfl⟩)
     go_ret
     exact ⟨rfl,rfl⟩
   · rintro e w' ⟨rfl,rfl⟩
     exact ⟨rfl,P,⟨b,be,bp,Pd,q,ek,eg,ev,pk,pg,pv,rfl,hm,hpl,ho,hl⟩,Chg.refl _ _⟩
theorem sGet_out (h:SInv w P d p X) {n:Int} (hn:n<0\/(X.is.length:Int)<=n):Calls Tryz.prog 61 #[p,.int .i64 n] w fun e w'=>e=.returned (.tuple #[.slice none 0 0,.int .i64 1])/\∃ P',SInv w' P' d p X/\Chg P P' w w':=by
 have h':=h
 obtain ⟨b,be,bp,Pd,q,ek,eg,ev,pk,pg,pv,rfl,hm,hpl,ho,hl⟩:=h
 have KU:=Lib.hid (sUsable_is hm)
 have KH:=Lib.hid (sHas_is hm n)
 rw[decide_eq_false (by have:=hpl.ok.lst.1;omega)] at KH
 refine Calls.mono (R:=fun e w'=>e=.returned (.tuple #[.slice none 0 0,.int .i64 1])/\w=w') ?_ ?_
 · clear hm hpl ho hl hn h'
   go_enter Tryz.func61,Tryz.ntmps61
   go_wp2_with (first
    |(go_at_call 65;refine KU.out.mono ?_;rintro e w' ⟨rfl,rfl⟩)
    |(go_at_call 104;refine KH.out.mono ?_;rintro e w' ⟨rfl,rfl⟩))
   go_ret2
   exact ⟨rfl,rfl⟩
 · rintro e w' ⟨rfl,rfl⟩
   exact ⟨rfl,P,h',Chg.refl _ _⟩
theorem sGet_row (h:SInv w P d p X) {n:Nat} (hn:n<X.is.length):Calls Tryz.prog 61 #[p,.int .i64 n] w fun e w'=>∃ v l,e=.returned (.tuple #[v,.int .i64 0])/\(∃ g cap T rest,Rw w' w.heap.size v l g cap T rest)/\(OutJ n->l=(if X.wi=true then X.call else X.is).getD n [])/\Below w.heap.size w w':=by
 have h':=h
 obtain ⟨b,be,bp,Pd,q,ek,eg,ev,pk,pg,pv,rfl,hm,hpl,ho,hl⟩:=h
 have hFl:=hpl.ok.lst.1
 have h768:=hpl.n64.2
 have hwf:(Lit.int .i64 (n:Int)).wf=true:=i64wf (by omega)
 have KU:=Lib.hid (sUsable_is hm)
 have KH:=Lib.hid (sHas_is hm n)
 have KC:=Lib.hid (sChanged_is hm hwf)
 rw[decide_eq_true (by omega)] at KH
 have hcall:OutJ n->(if X.wi=true then X.call else X.is).getD n []=if (n:Int)∈pk then pv n else if (n:Int)∈ek then ev n else X.base.getD n []:=fun ho=>by
  have h1:=hpl.isx n ho hn
  cases hw:X.wi
  · have h0:=hpl.wi0 hw
    rw[if_neg (by decide),h1,h0,if_neg List.not_mem_nil]
  · obtain ⟨_,_,h2⟩:=hpl.wi1 hw
    rw[if_pos rfl,h2 n ho hn,h1]
 by_cases hin:(n:Int)∈pk\/(n:Int)∈ek
 · obtain ⟨v,hv⟩:∃ v,v=(if (n:Int)∈pk then pg n else if (n:Int)∈ek then eg n else .slice none 0 0):=⟨_,rfl⟩
   obtain ⟨l,hl'⟩:∃ l,l=(if (n:Int)∈pk then pv n else if (n:Int)∈ek then ev n else X.base.getD n []):=⟨_,rfl⟩
   have hblo:Blo w v l:=by
    rw[hv,hl']
    by_cases hp:(n:Int)∈pk
    · rw[if_pos hp,if_pos hp];exact hm.rp _ hp
    · rw[if_neg hp,if_neg hp,if_pos (hin.resolve_left hp),if_pos (hin.resolve_left hp)];exact hm.re _ (hin.resolve_left hp)
   have hd:(decide ((n:Int)∈pk) || decide ((n:Int)∈ek))=true:=by simpa using hin
   rw[<- hv,hd] at KC
   have KB:=Lib.hid (bClone_of hblo.1.bsl (by rw[hblo.2];decide))
   refine Calls.mono (R:=fun e w'=>∃ v',e=.returned (.tuple #[v',.int .i64 0])/\OB w' w.heap.size v' l/\Below w.heap.size w w') ?_ ?_
   · clear hm hpl ho hl h' hcall hin hv hl' hblo hd hwf hFl h768 hn
     go_enter Tryz.func61,Tryz.ntmps61
     go_wp2_with (first
      |(go_at_call 65;refine KU.out.mono ?_;rintro e w' ⟨rfl,rfl⟩)
      |(go_at_call 104;refine KH.out.mono ?_;rintro e w' ⟨rfl,rfl⟩)
      |(go_at_call 105;refine KC.out.mono ?_;rintro e w' ⟨rfl,rfl⟩)
      |(go_at_call 106;refine KB.out.mono ?_;rintro e w' ⟨v',rfl,hob,hbe⟩))
     go_ret2
     exact ⟨v',rfl,hob,hbe⟩
   · rintro e w' ⟨v',rfl,hob,hbe⟩
     exact ⟨v',l,rfl,hob.rw' hblo.2,fun ho=>by rw[hcall ho,hl'],hbe⟩
 · have hd:(decide ((n:Int)∈pk) || decide ((n:Int)∈ek))=false:=by simpa using hin
   rw[hd] at KC
   have hnp:(n:Int) ∉ pk:=fun e=>hin (.inl e)
   have hne:(n:Int) ∉ ek:=fun e=>hin (.inr e)
   rw[if_neg hnp,if_neg hne] at KC
   have KR:=Lib.hid (kReadR hm.dk n (by omega) hpl.ok.pow)
   have KM:=Lib.hid (fun (W:World)=>sMet_ok (.pointer (some ⟨b,0,none⟩)) W 0 (by decide))
   have c0:=hm.c0
   refine Calls.mono (R:=fun e w'=>∃ v',e=.returned (.tuple #[v',.int .i64 0])/\(∃ g cap T rest,Rw w' w.heap.size v' (X.ds.vis.getD n []) g cap T rest)/\Below w.heap.size w w') ?_ ?_
   · clear hm hpl ho hl h' hcall hin hd hwf hFl h768 hn hnp hne
     go_enter Tryz.func61,Tryz.ntmps61
     go_wp2_with (first
      |(go_at_call 65;refine KU.out.mono ?_;rintro e w' ⟨rfl,rfl⟩)
      |(go_at_call 104;refine KH.out.mono ?_;rintro e w' ⟨rfl,rfl⟩)
      |(go_at_call 105;refine KC.out.mono ?_;rintro e w' ⟨rfl,rfl⟩)
      |(go_at_call 107;refine KR.out.mono ?_;rintro e w' ⟨v',rfl,hbs,hbe⟩)
      |(go_at_call 108;refine (KM.out _).mono ?_;rintro e w'' ⟨rfl,rfl⟩))
     go_ret2
     exact ⟨_,rfl,⟨_,_,_,_,hbs⟩,hbe⟩
   · rintro e w' ⟨v',rfl,hbs,hbe⟩
     refine ⟨v',_,rfl,hbs,fun ho=>?_,hbe⟩
     rw[hcall ho,if_neg hnp,if_neg hne]
     have hg:=hpl.ok.lst.glen
     exact hpl.ok.lst.2.1.2 n ho (by omega)
theorem sGet_own (h:SInv w P d p X) {n:Nat} (hn:n<X.is.length):Calls Tryz.prog 61 #[p,.int .i64 n] w fun e w'=>∃ v l,e=.returned (.tuple #[v,.int .i64 0])/\BSl w' v l/\(OutJ n->l=(if X.wi=true then X.call else X.is).getD n [])/\Below w.heap.size w w':=
 (sGet_row h hn).mono fun e w' ⟨v,l,he,⟨_,_,_,_,hr⟩,hj,hb⟩=>⟨v,l,he,hr.bsl,hj,hb⟩
theorem sGet_in (h:SInv w P d p X) {n:Nat} (hn:n<X.is.length):Calls Tryz.prog 61 #[p,.int .i64 n] w fun e w'=>∃ v l,e=.returned (.tuple #[v,.int .i64 0])/\BSl w' v l/\(OutJ n->l=(if X.wi=true then X.call else X.is).getD n [])/\∃ P',SInv w' P' d p X/\Chg P P' w w':=by
 have hl:=h
 obtain ⟨b,be,bp,Pd,q,ek,eg,ev,pk,pg,pv,rfl,hm,hpl,ho,hl'⟩:=hl
 exact (sGet_own h hn).mono fun e w' ⟨v,l,he,hb,hj,hbe⟩=>⟨v,l,he,hb,hj,P,h.keep hbe.size fun k hk=>hbe.block k (hl' k hk),Chg.of_below hbe⟩
end
end Go.Proofs.YtedabomlfcghoaaGreat
namespace Go.Proofs.YtedabomlfcghoaaGreat
set_option maxRecDepth 100000
open Go.RowKit BM
theorem spLaid_is {w:World}{v:Value}{O:List (Int × Int)} (hs:OwSl w v O) (hO:O.length=64) {g:Nat} (hg:g<12) (hx:∀ j,j<64->decide ((O.getD j (0,0)).1=65535)=fixB (64*(g:Int)+j)):
 Calls Tryz.prog 97 #[.int .i64 g,v] w fun e w'=>e=.returned (.bool true)/\Below w.heap.size w w':=by
 obtain ⟨b,off,cap,rfl,hb,hc⟩:=hs.at (by omega)
 have HC:=Lib.hid hc
 have HBB:=Lib.hid hs.1
 have HX:=Lib.hid hx
 have HO:=Lib.hid hO
 rw[hO]
 clear hc hs hx hO
 go_enter Tryz.func97,Tryz.ntmps97
 go_wp2
 go_loopw [9] (fun i wr=>∃ k:Nat,k<=64/\i=.int .i64 k/\Below w.heap.size w wr) (fun i _=>64-(intOf i).toNat)
 case atStart=>exact ⟨0,by omega,rfl,Below.refl _ _⟩
 case round=>
  obtain ⟨k,hk,rfl,hbr⟩:=hrel
  by_cases hlt:k<64
  · have hck:=HC.out k (by rw[HO.out];exact hlt)
    have hxk:=HX.out k hlt
    have hbd:=HBB.out k
    obtain ⟨x,hx⟩:∃ x,x=(O.getD k (0,0)).1:=⟨_,rfl⟩
    obtain ⟨y,hy⟩:∃ y,y=(O.getD k (0,0)).2:=⟨_,rfl⟩
    rw[<- hx,<- hy] at hck hbd
    rw[<- hx] at hxk
    have c1:=(hbr.cell (p:=⟨b,off+k*2,none⟩) hb).trans hck.1
    have c2:=(hbr.cell (p:=⟨b,off+k*2+1,none⟩) hb).trans hck.2
    have ek:(k:Int)<64:=by omega
    have eg:(g:Int)<12:=by omega
    have HB2:=Lib.hid (hbr.trans ((below_box wr (.cells #[.int .u16 x,.int .u16 y] 109)).mono hbr.size))
    obtain ⟨F,hF⟩:∃ F,F=fixB (64*(g:Int)+k):=⟨_,rfl⟩
    rw[<- hF] at hxk
    have eF:fixB ((g:Int)*64+k)=F:=by rw[hF,Int.mul_comm]
    have K1:=Lib.hid (gFixed_is ((g:Int)*64+k) (by omega) F eF)
    have hxb:(x==65535)=F:=hxk
    clear hx hy hck hF eF hxk
    go_wp2
    cases F
    all_goals
     go_quiet ((go_at_call 146;exact quiet_back (K1.out _)))
     go_wp2
     go_roundw
     case rel=>exact ⟨k+1,by omega,by go_num,below_drewN' HB2.out _⟩
     case measure=>simp[intOf];omega
  · go_wp2
    go_ret
    exact ⟨rfl,hbr⟩
def XSt.cur (X:XSt):List (List Int):=if X.wi=true then X.call else X.is
theorem XOk.curLen {X:XSt} (h:XOk X):X.cur.length=X.is.length:=by
 unfold XSt.cur;split
 · next hw=>exact h.call hw
 · rfl
theorem pageS_bd {O:List (Int × Int)} (hO:O.length=64) (hB:OwB O) (ha:allO O=true):pagesB (pageS O)/\ownK (pageS O) 64=O:=by
 have e:=ownK_page hB hO
 refine ⟨⟨pageS_length hO,?_⟩,e⟩
 rw[e]
 unfold allO at ha
 rw[hO] at ha
 simpa using ha
theorem spRead_of {w:World}{P:Nat->Prop}{d p:Value}{X:XSt}{O:List (Int × Int)}{k g:Nat} (h:SInv w P d p X) (hH:Has X.cur O k) (hO:OOk O k) (hg:g<k):
 Calls Tryz.prog 55 #[p,.int .i64 g] w fun e w'=>∃ v,e=.returned (.tuple #[v,.int .i64 0])/\OwR w' w.heap.size v (grO O g)/\Below w.heap.size w w':=by
 have hlen:X.is.length=64*k:=by
  obtain ⟨_,_,_,_,_,_,_,_,_,_,_,_,_,hpl,_⟩:=h
  rw[<- hpl.ok.curLen];exact hH.len
 have hlt:∀ k,P k->k<w.heap.size:=by
  obtain ⟨_,_,_,_,_,_,_,_,_,_,_,_,_,_,_,hl⟩:=h
  exact hl
 have h12:=hO.k12
 have hin:=dscN_in hg
 obtain ⟨gB,gA,gX⟩:=hO.gr hg
 have gL:=grO_length hO.len hg
 obtain ⟨Og,hOg⟩:∃ Og,Og=grO O g:=⟨_,rfl⟩
 obtain ⟨D,hD⟩:∃ D,D=descS (g:Int) (usedK Og 64):=⟨_,rfl⟩
 obtain ⟨E,hE⟩:∃ E,E=pageS Og:=⟨_,rfl⟩
 have eD:X.cur.getD (dscN g) []=D:=by rw[hH.ds g hg,hD,hOg]
 have eE:X.cur.getD (dscN g+1) []=E:=by rw[hH.ow g hg,hE,hOg]
 rw[<- hOg] at gB gA gX gL |-
 obtain ⟨pB,pE⟩:=pageS_bd gL gB gA
 rw[<- hE] at pB pE
 have KD:Hid (∀ W:World,Below w.heap.size w W->Calls Tryz.prog 61 #[p,.int .i64 (dscN g:Nat)] W fun e w'=>∃ v,e=.returned (.tuple #[v,.int .i64 0])/\BSl w' v D/\Below W.heap.size W w'):=Lib.hid fun W hb=>(sGet_own (h.keep hb.size fun i hi=>hb.block i (hlt i hi)) (n:=dscN g) (by omega)).mono fun e w' ⟨v,l,a,b,c,f⟩=>⟨v,a,by rw[<- eD];exact (c hin.2.1) ▸ b,f⟩
 have KE:Hid (∀ W:World,Below w.heap.size w W->Calls Tryz.prog 61 #[p,.int .i64 (((dscN g:Nat):Int)+1)] W fun e w'=>∃ v,e=.returned (.tuple #[v,.int .i64 0])/\BSl w' v E/\Below W.heap.size W w'):=Lib.hid fun W hb=>(sGet_own (h.keep hb.size fun i hi=>hb.block i (hlt i hi)) (n:=dscN g+1) (by omega)).mono fun e w' ⟨v,l,a,b,c,f⟩=>⟨v,a,by rw[<- eE];exact (c hin.2.2) ▸ b,f⟩
 have KO:Hid (∀ (W:World) (v:Value),BSl W v E->Calls Tryz.prog 96 #[v] W fun e w'=>∃ u,e=.returned (.tuple #[u,.int .i64 0])/\OwR w' W.heap.size u Og/\Below W.heap.size W w'):=Lib.hid fun W v hb=>(grOwn_any hb).mono fun e w' ho=>by
  rcases ho with ⟨_,u,a,b,c⟩| ⟨hn,_⟩
  · exact ⟨u,a,pE ▸ b,c⟩
  · exact absurd pB hn
 have KL:=Lib.hid (fun (W:World) (v:Value) (hs:OwSl W v Og)=>spLaid_is hs gL (show g<12 by omega) gX)
 have KC:Hid (∀ (W:World) (v:Value),OwSl W v Og->Calls Tryz.prog 98 #[.int .i64 g,v] W fun e w'=>∃ u,e=.returned (.tuple #[u,.int .i64 0])/\OB w' W.heap.size u D/\Below W.heap.size W w'):=Lib.hid fun W v hs=>(spDesc_is hs (g:Int) (by omega) (by omega) gA).mono fun e w' ho=>by rw[hD];exact ho
 have KEq:Hid (∀ (W:World) (u v:Value),BSl W u D->BSl W v D->Calls Tryz.prog 99 #[u,v] W fun e w'=>e=.returned (.bool true)/\W=w'):=Lib.hid fun W u v hu hv=>(bEqual_of hu hv).mono fun e w' ho=>by rw[decide_eq_true rfl] at ho;exact ho
 have KGd:=Lib.hid (fun (W:World)=>gDesc_any (g:Int) W)
 have KGo:=Lib.hid (fun (W:World)=>gOwners_any (g:Int) W)
 rw[dscN_I (show g<12 by omega)] at KGd
 rw[ownN_I (show g<12 by omega)] at KGo
 clear h hH hO eD eE hD hE hOg gB gA gX gL pB pE hin hlt hlen h12 hg
 go_enter Tryz.func55,Tryz.ntmps55
 go_wp2_with (first
  |(go_at_call 94;refine (KGd.out _).mono ?_;rintro e w' ⟨rfl,rfl⟩)
  |(go_at_call 95;refine (KGo.out _).mono ?_;rintro e w' ⟨rfl,rfl⟩)
  |(go_at_call 61;(with_reducible refine (KD.out _ (Below.refl _ _)).mono ?_);rintro e w1 ⟨vd,rfl,hvd,hb1⟩)
  |(go_at_call 61;(with_reducible refine (KE.out _ hb1).mono ?_);rintro e w2 ⟨vp,rfl,hvp,hb2⟩;have hvd2:=hvd.below hb2;have hb02:=hb1.trans (hb2.mono hb1.size))
  |(go_at_call 96;refine (KO.out _ _ hvp).mono ?_;rintro e w3 ⟨u,rfl,hu,hb3⟩;have hvd3:=hvd2.below hb3;have hb03:=hb02.trans (hb3.mono hb02.size))
  |(go_at_call 97;refine (KL.out _ _ hu.sl).mono ?_;rintro e w4 ⟨rfl,hb4⟩;have hvd4:=hvd3.below hb4;have hu4:=hu.below hb4;have hb04:=hb03.trans (hb4.mono hb03.size))
  |(go_at_call 98;refine (KC.out _ _ hu4.sl).mono ?_;rintro e w5 ⟨vw,rfl,hvw,hb5⟩;have hvd5:=hvd4.below hb5;have hu5:=hu4.below hb5;have hb05:=hb04.trans (hb5.mono hb04.size))
  |(go_at_call 99;refine (KEq.out _ _ _ hvd5 hvw.bsl).mono ?_;rintro e w6 ⟨rfl,rfl⟩))
 go_ret2
 exact ⟨u,rfl,hu5.more hb02.size,hb05⟩
def preN (f:Nat->Bool) (c L:Nat):List Bool:=(List.range L).map fun i=>if i<c then f i else false
theorem preN_length (f:Nat->Bool) (c L:Nat):(preN f c L).length=L:=by simp[preN]
theorem preN_set (f:Nat->Bool) (c L:Nat):(preN f c L).set c (f c)=preN f (c+1) L:=by
 apply List.ext_getElem (by simp[preN])
 intro i h1 h2
 simp only[preN,List.getElem_set,List.getElem_map,List.getElem_range]
 by_cases e:c=i
 · subst e;rw[if_pos rfl,if_pos (by omega)]
 · rw[if_neg e]
   by_cases h:i<c
   · rw[if_pos h,if_pos (by omega)]
   · rw[if_neg h,if_neg (by omega)]
theorem preN_zero (f:Nat->Bool) (L:Nat):preN f 0 L=List.replicate L false:=by
 rw[List.eq_replicate_iff]
 refine ⟨preN_length f 0 L,fun b hb=>?_⟩
 obtain ⟨i,_,rfl⟩:=List.mem_map.1 hb
 rw[if_neg (by omega)]
theorem preN_full (O:List (Int × Int)) (L:Nat):preN (usedJ O) L L=usedK O L:=by
 unfold preN usedK
 apply List.map_congr_left
 intro i hi
 rw[if_pos (List.mem_range.1 hi)]
section
variable {w:World}{P:Nat->Prop}{d p:Value}{X:XSt}{O:List (Int × Int)}{k:Nat}
theorem SInv.lt (h:SInv w P d p X):∀ k,P k->k<w.heap.size:=by
 obtain ⟨_,_,_,_,_,_,_,_,_,_,_,_,_,_,_,hl⟩:=h
 exact hl
theorem SInv.low (h:SInv w P d p X) {W:World} (hb:Below w.heap.size w W):SInv W P d p X:=h.keep hb.size fun i hi=>hb.block i (h.lt i hi)
theorem spRead_at {g:Nat} (h:SInv w P d p X) (hH:Has X.cur O k) (hO:OOk O k) (hg:g<k):
 Calls Tryz.prog 55 #[p,.int .i64 g] w fun e w'=>∃ b cap,e=.returned (.tuple #[.slice (some ⟨b,0,none⟩) 64 cap,.int .i64 0])/\w.heap.size<=b/\b<w'.heap.size/\OwR w' w.heap.size (.slice (some ⟨b,0,none⟩) 64 cap) (grO O g)/\
  (∀ j,j<64->w'.cell? ⟨b,j*2,none⟩=some (.int .u16 ((grO O g).getD j (0,0)).1)/\w'.cell? ⟨b,j*2+1,none⟩=some (.int .u16 ((grO O g).getD j (0,0)).2))/\Below w.heap.size w w':=by
 refine (spRead_of h hH hO hg).mono fun e w' ⟨v,he,hv,hb⟩=>?_
 have hl:=grO_length hO.len hg
 obtain ⟨b,cap,rfl⟩:=ow_len hv 64 hl (by decide)
 obtain ⟨b',off,cap',e1,hbl,hc⟩:=hv.sl.at (by omega)
 injection e1 with e1 _ _
 injection e1 with e1
 injection e1 with e1 e2
 subst e1;subst e2
 exact ⟨b,cap,he,(World.ownsRow.lt hv.2 b rfl).1,hbl,hv,fun j hj=>by have:=hc j (by omega);rwa [Nat.zero_add] at this,hb⟩
theorem spUB_yes (h:SInv w P d p X) (hH:Has X.cur O k) (hO:OOk O k) {m:Nat} (hm1:1<=m) (hm:m<=k):
 Calls Tryz.prog 29 #[p,.int .i64 (64*(m:Int))] w fun e w'=>∃ q r,e=.returned (.tuple #[.pointer (some ⟨q,0,none⟩),.int .i64 0])/\BRow w' q r (usedK O (64*m))/\Below w.heap.size w w':=by
 have h12:=hO.k12
 have KF:=Lib.hid (fun (W:World)=>gFormed_yes m hm1 (by omega) W)
 have KG:=Lib.hid (fun (W:World)=>gGroups_yes m hm1 (by omega) W)
 have KN:=Lib.hid (bNew_len (64*m) (by omega) w)
 rw[show ((64*m:Nat):Int)=64*(m:Int) by omega] at KN
 have KR:Hid (∀ (W:World),Below w.heap.size w W->∀ g,g<m->Calls Tryz.prog 55 #[p,.int .i64 g] W fun e w'=>∃ b cap,e=.returned (.tuple #[.slice (some ⟨b,0,none⟩) 64 cap,.int .i64 0])/\W.heap.size<=b/\b<w'.heap.size/\
  (∀ j,j<64->w'.cell? ⟨b,j*2,none⟩=some (.int .u16 ((grO O g).getD j (0,0)).1)/\w'.cell? ⟨b,j*2+1,none⟩=some (.int .u16 ((grO O g).getD j (0,0)).2))/\Below W.heap.size W w'):=Lib.hid fun W hb g hg=>(spRead_at (h.low hb) hH hO (show g<k by omega)).mono fun e w' ⟨b,cap,h1,h2,h3,_,h4,h5⟩=>⟨b,cap,h1,h2,h3,h4,h5⟩
 have HU:Hid (∀ g j x y,j<64->g<m->x=((grO O g).getD j (0,0)).1->y=((grO O g).getD j (0,0)).2->freeP x y=!usedJ O (64*g+j)):=Lib.hid fun g j x y hj hg ex ey=>by
  have e1:=grO_getD O g hj
  have hf:=hO.frm (64*g+j) (by omega)
  rw[e1] at ex ey
  unfold frmJ at hf
  rw[<- ex,<- ey] at hf
  unfold usedJ
  rw[<- ex]
  by_cases hx:x=0
  · rw[hx] at hf |-
    rw[frm_zero hf];rfl
  · have hxb:(x==0)=false:=by simpa using hx
    rw[freeP,hxb,decide_eq_true hx];rfl
 have hm12:m<=12:=by omega
 clear h hH hO h12 hm
 go_enter Tryz.func29,Tryz.ntmps29
 go_wp2_with (first
  |(go_at_call 52;refine (KF.out _).mono ?_;rintro e w' ⟨rfl,rfl⟩)
  |(go_at_call 54;refine (KG.out _).mono ?_;rintro e w' ⟨rfl,rfl⟩)
  |(go_at_call 53;refine KN.out.mono ?_;rintro e w1 ⟨rfl,hrow1,hb1⟩))
 obtain ⟨r,hr⟩:∃ r,r=w.heap.size:=⟨_,rfl⟩
 rw[<- hr] at hrow1 |-
 obtain ⟨q,hq⟩:∃ q,q=r+1:=⟨_,rfl⟩
 rw[<- hq] at hrow1 |-
 have hrq:r<q:=by omega
 have hwr:w.heap.size<=r:=by omega
 obtain ⟨L,hL⟩:∃ L,L=64*m:=⟨_,rfl⟩
 rw[<- hL] at hrow1
 rw[<- preN_zero (usedJ O)] at hrow1
 have HL0:=Lib.hid hL
 have HR1:Hid (BRow w1 q r (preN (usedJ O) (64*0) L)):=Lib.hid hrow1
 have hb1':Below w.heap.size w w1:=hb1
 clear hr hq hrow1 hL hb1
 go_loopw [19] (fun i wr=>∃ g:Nat,g<=m/\i=.int .i64 g/\Hid (BRow wr q r (preN (usedJ O) (64*g) L))/\Below w.heap.size w wr) (fun i _=>m-(intOf i).toNat)
 case atStart=>exact ⟨0,by omega,rfl,HR1,hb1'⟩
 case round=>
  obtain ⟨g,hg,rfl,HROW,hbr⟩:=hrel
  clear HR1 hb1'
  by_cases hlt:g<m
  · have eg:(g:Int)<12:=by omega
    have egm:(g:Int)<(m:Int):=by omega
    have KR1:=Lib.hid (KR.out wr hbr g hlt)
    have hrl:=HROW.out.lt
    have HRLT:=Lib.hid hrl
    clear hrl
    go_wp2_with (go_at_call 55;refine KR1.out.mono ?_;rintro e w2 ⟨b,cap,rfl,hbb,hbl,hc,hb2⟩)
    have hrow2:=HROW.out.below hb2 HRLT.out.1 HRLT.out.2
    have hb02:=hbr.trans (hb2.mono hbr.size)
    have hbq:q<b:=by have:=HRLT.out.1;omega
    have hbr':r<b:=by omega
    have HC:=Lib.hid hc
    have HR2:Hid (BRow w2 q r (preN (usedJ O) (64*g+0) L)):=Lib.hid hrow2
    clear hrow2 hc hb2 hbr HROW HRLT KR1
    go_loopw [33] (fun i wr=>∃ j:Nat,j<=64/\i=.int .i64 j/\Hid (BRow wr q r (preN (usedJ O) (64*g+j) L))/\Hid (wr.heap[b]? =w2.heap[b]?)/\Below w.heap.size w wr) (fun i _=>64-(intOf i).toNat)
    case atStart=>exact ⟨0,by omega,rfl,HR2,Lib.hid rfl,hb02⟩
    case round=>
     obtain ⟨j,hj,rfl,HROW,HE,hbi⟩:=hrel
     clear HR2 hb02
     by_cases hjt:j<64
     · have hck:=HC.out j hjt
       have hfr:=HU.out g j _ _ hjt hlt rfl rfl
       obtain ⟨x,hx⟩:∃ x,x=((grO O g).getD j (0,0)).1:=⟨_,rfl⟩
       obtain ⟨y,hy⟩:∃ y,y=((grO O g).getD j (0,0)).2:=⟨_,rfl⟩
       rw[<- hx,<- hy] at hck
       rw[<- hx,<- hy] at hfr
       have c1:=(World.cell?_of_block (a:=⟨b,j*2,none⟩) (w:=w2) HE.out).trans hck.1
       have c2:=(World.cell?_of_block (a:=⟨b,j*2+1,none⟩) (w:=w2) HE.out).trans hck.2
       have ej:(j:Int)<64:=by omega
       have hrl:=HROW.out.lt
       obtain ⟨U,hU⟩:∃ U,U=usedJ O (64*g+j):=⟨_,rfl⟩
       rw[<- hU] at hfr
       have hps:=preN_set (usedJ O) (64*g+j) L
       rw[<- hU] at hps
       have HPS:=Lib.hid hps
       have hb3:=below_box wr (.cells #[.int .u16 x,.int .u16 y] 109)
       have KFr:=Lib.hid (spFree_is x y (!U) hfr (wr.alloc (.cells #[.int .u16 x,.int .u16 y] 109)))
       have KS:Hid (∀ (W:World),BRow W q r (preN (usedJ O) (64*g+j) L)->Calls Tryz.prog 56 #[.pointer (some ⟨q,0,none⟩),.int .i64 ((g:Int)*64+j),.bool U] W fun e w'=>e=.returned (.int .i64 0)/\BRow w' q r (preN (usedJ O) (64*g+(j+1)) L)/\Wrote W w' r):=Lib.hid fun W hr=>by
        have:=bSet_nat hr (64*g+j) (by rw[preN_length,HL0.out];omega) U
        rw[HPS.out] at this
        rw[show ((64*g+j:Nat):Int)=(g:Int)*64+j by omega] at this
        exact this
       have HROW3:=Lib.hid (HROW.out.below hb3 hrl.1 hrl.2)
       clear hx hy hck hfr hU hps HPS
       cases U
       all_goals
        go_wp2_with (first
         |(go_at_call 57;refine KFr.out.mono ?_;rintro e w4 ⟨rfl,hb4⟩;have hrow4:=HROW3.out.below hb4 (by have:=hrl.1;simp;omega) (by have:=hrl.2;simp;omega);have hb34:=hb3.trans (hb4.mono hb3.size))
         |(go_at_call 56;refine (KS.out _ hrow4).mono ?_;rintro e w5 ⟨rfl,hrow5,hw5⟩))
        go_roundw
        case rel=>
         refine ⟨j+1,by omega,by go_num,hrow5,?_,(hbi.trans (hb34.mono hbi.size)).trans (hw5.below (by omega))⟩
         have hbw:b<wr.heap.size:=by
          have:=(Array.getElem?_eq_some_iff.1 (HE.out.trans (Array.getElem?_eq_getElem hbl))).1
          exact this
         exact (hw5.2.2.2.2 _ (by omega)).trans ((hb34.block b hbw).trans HE.out)
        case measure=>simp[intOf];omega
     · obtain rfl:j=64:=by omega
       have HROW':Hid (BRow wr q r (preN (usedJ O) (64*(g+1)) L)):=Lib.hid (by rw[show 64*(g+1)=64*g+64 by omega];exact HROW.out)
       go_wp2
       go_roundw
       case rel=>exact ⟨g+1,by omega,by go_num,HROW',hbi⟩
       case measure=>simp[intOf];omega
  · obtain rfl:g=m:=by omega
    have hrow:=HROW.out
    rw[<- HL0.out,preN_full] at hrow
    go_wp2
    go_ret2
    exact ⟨q,r,rfl,by rw[<- HL0.out];exact hrow,hbr⟩
end
end Go.Proofs.YtedabomlfcghoaaGreat
