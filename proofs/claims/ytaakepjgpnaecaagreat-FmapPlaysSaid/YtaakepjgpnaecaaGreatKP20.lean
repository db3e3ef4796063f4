/- What the law rests on: part 20. -/
import Derived.Test.YtaakepjgpnaecaaGreatKP19
set_option linter.unusedVariables false
namespace Go.Proofs.YtaakepjgpnaecaaGreat
set_option maxRecDepth 100000
open Go.RowKit
theorem ok_dn {t:DS} (hok:t.ok=true) (hdn:t.dn=false):t.pay.dn=false:=by
 have:pDn t.fu t.le t.dn=false:=by
  unfold DS.ok pOk at hok
  unfold pDn
  revert hok
  rw[hdn]
  cases t.fu <;> simp
 exact this
theorem runA_dn:∀ (A:List PA) (t:DS),(runA A t).1=0->t.dn=false->(runA A t).2.dn=false
 |[],_,_,h=>h
 |a :: A,t,h0,hdn=>by
  rw[runA_cons] at h0 |-
  cases hok:t.ok
  · rw[hok,if_neg Bool.false_ne_true] at h0
    exact absurd (show (2:Int)=0 from h0) (by decide)
  · rw[hok,if_pos rfl] at h0
    rw[if_pos rfl]
    refine runA_dn A _ h0 ?_
    have:=ok_dn hok hdn
    cases a <;> exact this
theorem Lst.flush {n:Nat}{s:DS}{G:List (List Int)} (h:Lst n s G) (h43:43<=n):Lst n s.flush G:=by
 obtain ⟨h1,h2,h3⟩:=h
 have hz:s.flush.F.length=n:=by show s.vis.length=n;rw[DS.vis_length];exact h1
 refine ⟨hz,?_,?_⟩
 · rw[DS.flush_vis];exact h2
 · rcases h3 with ⟨q,N,D,Z,a,b,c,e⟩| ⟨a,b⟩
   · have hzz:Z.length=n:=b.1.symm.trans h1
     exact .inl ⟨q,N,D,Z,a,b.home a.1 (by rw[hzz];exact a.far) (by omega) c,fun x hx=>(by cases hx),e⟩
   · refine .inr ⟨?_,rfl⟩
     show InvN s.vis G
     rw[vis_empty b];exact a
def setA (q:Int) (N:List Int) (D:List (List Int)):List PA:=layA q (layWs q N D) ++ (homeA N D ++ [.f])
theorem set_len {n:Nat}{N:List Int}{D:List (List Int)} (hT:okT n N D) (q:Int):(setA q N D).length<=100:=by
 obtain ⟨h1,h2,_⟩:=frmT_of hT.1
 unfold setA layA layWs homeA homeW
 simp only[List.length_append,List.length_map,List.length_range,List.length_cons,List.length_nil]
 omega
theorem set_plain {n:Nat}{s:DS}{G:List (List Int)} (h:Lst n s G) (h43:43<=n) (hU:s.U=[]) (hd:s.dn=false) {q:Int}{N:List Int}{D:List (List Int)} (hT:okT n N D) (hq:0<=q/\q<4294967296):
 let r:=runA (setA q N D) s
 (r.1=0->r.2.dn=false/\r.2.U=[]/\Lst n r.2 (appU (homeW N D) G))/\(r.1=2->s.fu=true/\DeadOk n r.2 [G,appU (homeW N D) G]):=by
 intro r
 have hlen:=runA_len (setA q N D) s
 have hsl:=set_len hT q
 have hF:r.2.F.length=n:=hlen.1.trans h.1
 have hU1:r.2.U.length<=1000:=by
  have h2:r.2.U.length<=s.U.length+(setA q N D).length:=hlen.2
  rw[hU] at h2
  simp at h2
  omega
 have hfu:r.1=2->s.fu=true:=fun h2=>by
  cases hf:s.fu
  · have:=(runA_free (setA q N D) s hf hd).1
    have h2':(runA (setA q N D) s).1=2:=h2
    rw[this] at h2';cases h2'
  · rfl
 have hw:=h.write h43 hT hq
 have er:r=if (runA (layA q (layWs q N D)) s).1=0 then runA (homeA N D ++ [.f]) (runA (layA q (layWs q N D)) s).2 else runA (layA q (layWs q N D)) s:=runA_append _ _ _
 by_cases h1:(runA (layA q (layWs q N D)) s).1=0
 · rw[if_pos h1] at er
   have hm:=hw.2 h1
   have hd1:=runA_dn _ _ h1 hd
   generalize (runA (layA q (layWs q N D)) s).2=s1 at er hm hd1
   obtain ⟨k1,k2⟩:=hm.home h43 hT
   have er2:=runA_append (homeA N D) [.f] s1
   by_cases h2:(runA (homeA N D) s1).1=0
   · rw[if_pos h2] at er2
     have hl:=k2 h2
     have hd2:=runA_dn _ _ h2 hd1
     generalize (runA (homeA N D) s1).2=s2 at er2 hl hd2
     rw[er2] at er
     cases hok:s2.ok
     · have e3:runA [.f] s2=(2,s2.pay):=by rw[runA_cons,hok,if_neg (by decide)]
       rw[e3] at er
       rw[er]
       refine ⟨fun e=>absurd (show (2:Int)=0 from e) (by decide),fun e=>⟨hfu (by rw[er]),by rw[er] at hU1;exact hU1,by rw[er] at hF;exact hF,fun kp=>⟨_,by simp,hl.pay.crash h43 (kpOf kp)⟩⟩⟩
     · have e3:runA [.f] s2=(0,s2.flush):=by rw[runA_cons,hok,if_pos rfl];rfl
       rw[e3] at er
       rw[er]
       exact ⟨fun _=>⟨ok_dn hok hd2,rfl,hl.flush h43⟩,fun e=>absurd (show (0:Int)=2 from e) (by decide)⟩
   · rw[if_neg h2] at er2
     rw[er2] at er
     have h2':=(runA_two (homeA N D) s1).resolve_left h2
     refine ⟨fun e=>absurd (by rw[er] at e;exact e) h2,fun e=>⟨hfu e,hU1,hF,fun kp=>⟨appU (homeW N D) G,by simp,?_⟩⟩⟩
     rw[er]
     exact k1 (kpOf kp)
 · rw[if_neg h1] at er
   have h1':=(runA_two (layA q (layWs q N D)) s).resolve_left h1
   refine ⟨fun e=>absurd (by rw[er] at e;exact e) h1,fun e=>⟨hfu e,hU1,hF,fun kp=>?_⟩⟩
   rw[er]
   rcases hw.1 (kpOf kp) h1' with k|k
   · exact ⟨_,by simp,k⟩
   · exact ⟨_,by simp,k⟩
theorem set_get {l:List Int} (j:Nat) (hj:j<l.length):l.getD j 0∈l:=by
 rw[List.getD_eq_getElem?_getD,List.getElem?_eq_getElem hj];exact List.getElem_mem hj
theorem set_ok {n:Nat}{ek:List Int}{ev:Int->List Int} (hn:ek.Nodup) (hl:ek.length<=37) (hk:∀ x∈ek,inK n x) (h768:n<=768) (hv:∀ x∈ek,(ev x).length=256):okT n (sortN ek) ((sortN ek).map ev):=by
 have hmem:∀ j,j<(sortN ek).length->(sortN ek).getD j 0∈ek:=fun j hj=>mem_sortN.1 (set_get j hj)
 have hD:∀ j,j<(sortN ek).length->((sortN ek).map ev).getD j []=ev ((sortN ek).getD j 0):=fun j hj=>by
  simp[List.getD_eq_getElem?_getD,hj]
 refine ⟨?_,?_,?_⟩
 · unfold frmT
   rw[decide_eq_true (by rw[sortN_length];exact hl),decide_eq_true (by rw[List.length_map]),Bool.true_and,Bool.true_and]
   refine (frmTK_iff _ _ _).2 fun i hi=>?_
   have hm:=hmem i hi
   obtain ⟨h0,h1,_⟩:=hk _ hm
   unfold okT9 inP9
   rw[decide_eq_true (by omega),hD i hi,decide_eq_true (hv _ hm),Bool.true_and,Bool.true_and]
   refine (newT_iff _ i hi).2 fun j hj e=>?_
   have hnd:=sortN_nodup hn
   have hj':j<(sortN ek).length:=by omega
   rw[List.getD_eq_getElem?_getD,List.getD_eq_getElem?_getD,List.getElem?_eq_getElem hi,List.getElem?_eq_getElem hj'] at e
   exact (List.pairwise_iff_getElem.1 hnd) j i hj' hi hj e
 · exact (hasN_iff _ _).2 fun k hk'=>(hk _ (hmem k hk')).2.1
 · refine (inJS_no _).2 fun k hk' e=>?_
   have:=(hk _ (hmem k hk')).2.2
   unfold OutJ at this
   omega
theorem set_is {n:Nat}{ek:List Int}{ev:Int->List Int}{B I:List (List Int)} (hk:∀ x∈ek,inK n x) (hB:B.length=n) (hI:I.length=n) (hv:∀ i,OutJ i->i<n->I.getD i []=if (i:Int)∈ek then ev i else B.getD i []):
 eqO (appU (homeW (sortN ek) ((sortN ek).map ev)) B) I:=by
 have hD:∀ j,j<(sortN ek).length->((sortN ek).map ev).getD j []=ev ((sortN ek).getD j 0):=fun j hj=>by
  simp[List.getD_eq_getElem?_getD,hj]
 refine ⟨by rw[appU_length];omega,fun i ho hi=>?_⟩
 rw[hv i ho (by omega)]
 by_cases hin:(i:Int)∈ek
 · rw[if_pos hin]
   refine appU_hit _ B i _ (by omega) (fun x hx hxi=>?_) ?_
   · unfold homeW at hx
     obtain ⟨j,hj,rfl⟩:=List.mem_map.1 hx
     have hj':=List.mem_range.1 hj
     have h0:=(hk _ (mem_sortN.1 (set_get j hj'))).1
     have:(sortN ek).getD j 0=(i:Int):=by
      have h2:((sortN ek).getD j 0).toNat=i:=hxi
      omega
     show ((sortN ek).map ev).getD j []=ev i
     rw[hD j hj',this]
   · obtain ⟨j,hj,e⟩:=List.getElem_of_mem (mem_sortN.2 hin)
     refine ⟨(((sortN ek).getD j 0).toNat,((sortN ek).map ev).getD j []),?_,?_⟩
     · unfold homeW
       exact List.mem_map.2 ⟨j,List.mem_range.2 hj,rfl⟩
     · show ((sortN ek).getD j 0).toNat=i
       rw[List.getD_eq_getElem?_getD,List.getElem?_eq_getElem hj]
       show ((sortN ek)[j]).toNat=i
       rw[e];rfl
 · rw[if_neg hin]
   refine appU_other _ B i fun x hx hxi=>?_
   unfold homeW at hx
   obtain ⟨j,hj,rfl⟩:=List.mem_map.1 hx
   have hj':=List.mem_range.1 hj
   have hm:=mem_sortN.1 (set_get j hj')
   have h0:=(hk _ hm).1
   have h2:((sortN ek).getD j 0).toNat=i:=hxi
   exact hin (by rw[show (i:Int)=(sortN ek).getD j 0 by omega];exact hm)
structure Stg (w:World) (Pd:Nat->Prop) (b be bp:Nat) (d:Value) (q:Int) (ek:List Int) (eg:Int->Value) (ev:Int->List Int) (pk:List Int) (pg:Int->Value) (pv:Int->List Int) (wi:Bool) (g:Nat) (vN vD:Value) (N:List Int) (D:List (List Int)) (W:World) (P':Nat->Prop) (s:DS):Prop where
 sm:SMem W P' b be bp d q ek eg ev pk pg pv wi s
 tx:TxVa W P' (.agg #[.int .u32 q,vN,vD]) q N D
 box:W.heap[g]? =some (.cells #[.int .u32 q,vN,vD] 193 (0,0))
 chg:Chg Pd P' w W
def deadRow:Obj:=.cells #[.pointer none,.int .u32 0,.map none,.map none,.bool false,.bool true] 86 (0,0)
section
variable {w:World}{Pd:Nat->Prop}{b be bp:Nat}{d:Value}{q:Int}{ek:List Int}{eg:Int->Value}{ev:Int->List Int}{pk:List Int}{pg:Int->Value}{pv:Int->List Int}{wi:Bool}{g:Nat}{vN vD:Value}{N:List Int}{D:List (List Int)}{W:World}{P':Nat->Prop}{s:DS}
theorem Stg.below (h:Stg w Pd b be bp d q ek eg ev pk pg pv wi g vN vD N D W P' s) {W':World} (hb:Below W.heap.size W W'):Stg w Pd b be bp d q ek eg ev pk pg pv wi g vN vD N D W' P' s:=
 ⟨h.sm.below hb,h.tx.chg (Chg.of_below hb),(hb.block g (Array.getElem?_eq_some_iff.1 h.box).1).trans h.box,h.chg.trans (Chg.of_below hb)⟩
theorem Stg.step (h:Stg w Pd b be bp d q ek eg ev pk pg pv wi g vN vD N D W P' s) {W':World}{P'':Nat->Prop}{s':DS} (hd:Dk W' P'' d s') (hc:Chg P' P'' W W'):Stg w Pd b be bp d q ek eg ev pk pg pv wi g vN vD N D W' P'' s':=
 ⟨h.sm.disk hd hc,h.tx.chg hc,(hc.keep g (Array.getElem?_eq_some_iff.1 h.box).1 (h.sm.dk.not h.box (by decide) (by decide) (by decide))).1.trans h.box,h.chg.trans hc⟩
theorem Stg.facts (h:Stg w Pd b be bp d q ek eg ev pk pg pv wi g vN vD N D W P' s):W.cell? ⟨b,0,none⟩=some d/\W.cell? ⟨g,0,none⟩=some (.int .u32 q)/\W.cell? ⟨g,1,none⟩=some vN/\W.cell? ⟨g,2,none⟩=some vD:=⟨h.sm.c0,(rowT h.box).1.1,(rowT h.box).1.2.1,(rowT h.box).1.2.2⟩
theorem Stg.write (h:Stg w Pd b be bp d q ek eg ev pk pg pv wi g vN vD N D W P' s) (hB:takesT s.F.length N D=true) (hU:s.U.length<=900000):
 Calls Tryz.prog 125 #[d,.agg #[.int .u32 q,vN,vD]] W fun e W'=>e=.returned (.int .i64 (runA (layA q (layWs q N D)) s).1)/\∃ P'',Stg w Pd b be bp d q ek eg ev pk pg pv wi g vN vD N D W' P'' (runA (layA q (layWs q N D)) s).2:=
 (gWrite_yes h.sm.dk h.tx.v h.sm.q0.1 h.sm.q0.2 hB hU).mono fun e W' ⟨he,P'',hd,hc⟩=>⟨he,P'',h.step hd hc⟩
theorem Stg.home (h:Stg w Pd b be bp d q ek eg ev pk pg pv wi g vN vD N D W P' s) (hB:takesT s.F.length N D=true) (hU:s.U.length<=900000):
 Calls Tryz.prog 126 #[d,.agg #[.int .u32 q,vN,vD]] W fun e W'=>e=.returned (.int .i64 (runA (homeA N D) s).1)/\∃ P'',Stg w Pd b be bp d q ek eg ev pk pg pv wi g vN vD N D W' P'' (runA (homeA N D) s).2:=
 (gHome_yes h.sm.dk h.tx hB hU).mono fun e W' ⟨he,P'',hd,hc⟩=>⟨he,P'',h.step hd hc⟩
theorem Stg.flush (h:Stg w Pd b be bp d q ek eg ev pk pg pv wi g vN vD N D W P' s) (hU:s.U.length<=900000):
 Calls Tryz.prog 127 #[d] W fun e W'=>e=.returned (.int .i64 (runA [.f] s).1)/\∃ P'',Stg w Pd b be bp d q ek eg ev pk pg pv wi g vN vD N D W' P'' (runA [.f] s).2:=
 (kFlush h.sm.dk (by omega)).mono fun e W' ⟨he,P'',hd,hc⟩=>by
   rw[runA_cons]
   cases hok:s.ok
   · rw[hok] at he hd
     exact ⟨he,P'',h.step hd hc⟩
   · rw[hok] at he hd
     exact ⟨he,P'',h.step hd hc⟩
theorem Stg.over (h:Stg w Pd b be bp d q ek eg ev pk pg pv wi g vN vD N D W P' s):Calls Tryz.prog 51 #[.pointer (some ⟨b,0,none⟩),.int .i64 2] W fun e w'=>e=.returned (.int .i64 2)/\
 ∃ Pd',w'.heap[b]? =some deadRow/\Dk w' Pd' d s/\(∀ k,Pd' k->Pd k\/w.heap.size<=k)/\Ext (fun k=>Pd k\/k=b) w w':=
 (sMet_io h.sm).mono fun e w' ⟨he,hw,hb⟩=>⟨he,P',hb,h.sm.dk.same fun k hk=>hw.2.2.2.2 k fun e=>h.sm.nd (e ▸ hk),fun k hk=>chg_new h.chg hk,
   ((Ext.of_chg h.chg fun k hk=>.inl hk).trans (P2:=fun k=>k=b) (Ext.of_wrote hw rfl) fun k _ e=>.inr e)⟩
theorem Stg.fresh (h:Stg w Pd b be bp d q ek eg ev pk pg pv wi g vN vD N D W P' s) {q':Int} (hq:0<=q'/\q'<4294967296):
 let w':=((W.setCell ⟨b,1,none⟩ (.int .u32 q')).setCell ⟨b,2,none⟩ (.map (some W.heap.size))).alloc (.map #[] 0)
 ∃ be' Pd' q'',SMem w' Pd' b be' bp d q'' [] eg ev pk pg pv wi s/\(w.heap.size<=be'/\be'<w'.heap.size)/\(∀ k,Pd' k->Pd k\/w.heap.size<=k)/\Ext (fun k=>Pd k\/k=b) w w':=by
 intro w'
 obtain ⟨w2,hw2⟩:∃ w2,w2=(W.setCell ⟨b,1,none⟩ (.int .u32 q')).setCell ⟨b,2,none⟩ (.map (some W.heap.size)):=⟨_,rfl⟩
 have hw':w'=w2.alloc (.map #[] 0):=by rw[hw2]
 have hs2:w2.heap.size=W.heap.size:=by rw[hw2];simp[World.setCell]
 have hwr:Wrote W w2 b:=by rw[hw2];exact (Wrote.setCell W b 1 _).and (Wrote.setCell _ b 2 _)
 have hbb:Below w2.heap.size w2 w':=by rw[hw'];exact below_box w2 _
 have hbW:=h.sm.bl
 have e1:=heap_setCell_same W b 1 _ _ (.int .u32 q') h.sm.hb
 have e2:=heap_setCell_same _ b 2 _ _ (.map (some W.heap.size)) e1
 rw[<- hw2] at e2
 have e3:=(hbb.block b (by rw[hs2];exact hbW)).trans e2
 have hsz:w'.heap.size=W.heap.size+1:=by rw[hw'];simp[hs2]
 have hk:∀ k,k<W.heap.size->k≠b->w'.heap[k]? =W.heap[k]? :=fun k hl hn=>(hbb.block k (by rw[hs2];exact hl)).trans (hwr.2.2.2.2 k hn)
 have hM:Mp w' W.heap.size [] eg:=by
  have h0:=Mp.made w2 eg
  rw[hs2,<- hw'] at h0
  exact h0
 have hbp:=h.sm.mp.lt
 have hext:Ext (fun k=>Pd k\/k=b) w w':=((Ext.of_chg h.chg fun k hk=>.inl hk).trans (P2:=fun k=>k=b) ⟨hbb.os.trans hwr.1,hbb.tape.trans hwr.2.1,hbb.output.trans hwr.2.2.1,by rw[hsz];omega,fun k hl hn=>hk k hl hn⟩ fun k _ e=>.inr e)
 refine ⟨W.heap.size,P',q',⟨e3,?_,hq,hM,?_,?_,fun x hx=>absurd hx List.not_mem_nil,?_⟩,⟨h.chg.size,by rw[hsz];omega⟩,fun k hk=>chg_new h.chg hk,hext⟩
 · exact h.sm.dk.same fun k hp=>hk k (h.sm.dk.lt k hp) fun e=>h.sm.nd (e ▸ hp)
 · exact h.sm.mp.keep (hk bp hbp h.sm.nb.2)
 · exact fun e=>by rw[<- e] at hbp;exact Nat.lt_irrefl _ hbp
 · exact fun x hx=>(h.sm.rp x hx).keep fun r hr=>hk r ((h.sm.rp x hx).lt hr) ((h.sm.rp x hx).ne hr h.sm.hb (by decide))
end
section
variable {w:World}{Pd:Nat->Prop}{b be bp:Nat}{d:Value}{q:Int}{ek:List Int}{eg:Int->Value}{ev:Int->List Int}{pk:List Int}{pg:Int->Value}{pv:Int->List Int}{wi:Bool}{s:DS}
end
def SetQ (w:World) (Pd:Nat->Prop) (b bp:Nat) (d:Value) (eg:Int->Value) (ev:Int->List Int) (pk:List Int) (pg:Int->Value) (pv:Int->List Int) (wi:Bool) (r:Int × DS) (e:Ending) (w':World):Prop:=
 (r.1=0/\e=.returned (.int .i64 0)/\∃ be' Pd' q',SMem w' Pd' b be' bp d q' [] eg ev pk pg pv wi r.2/\(w.heap.size<=be'/\be'<w'.heap.size)/\(∀ k,Pd' k->Pd k\/w.heap.size<=k)/\Ext (fun k=>Pd k\/k=b) w w')\/
 (r.1=2/\e=.returned (.int .i64 2)/\∃ Pd',w'.heap[b]? =some deadRow/\Dk w' Pd' d r.2/\(∀ k,Pd' k->Pd k\/w.heap.size<=k)/\Ext (fun k=>Pd k\/k=b) w w')
section
variable {w:World}{Pd:Nat->Prop}{b be bp:Nat}{d:Value}{q:Int}{ek:List Int}{eg:Int->Value}{ev:Int->List Int}{pk:List Int}{pg:Int->Value}{pv:Int->List Int}{wi:Bool}{s:DS}
set_option maxHeartbeats 2000000 in
theorem sSettle_of (h:SMem w Pd b be bp d q ek eg ev pk pg pv wi s) (hne:0<ek.length) (hel:ek.length<=37) (hB:takesT s.F.length (sortN ek) ((sortN ek).map ev)=true) (hU:s.U.length<=800000):
 Calls Tryz.prog 83 #[.pointer (some ⟨b,0,none⟩)] w (SetQ w Pd b bp d eg ev pk pg pv wi (runA (setA q (sortN ek) ((sortN ek).map ev)) s)):=by
 have KT:=Lib.hid (sTrans_of h hel)
 obtain ⟨N,hN⟩:∃ N,N=sortN ek:=⟨_,rfl⟩
 obtain ⟨D,hD⟩:∃ D,D=N.map ev:=⟨_,rfl⟩
 rw[<- hN,<- hD] at KT hB |-
 have h37:N.length<=37/\D.length<=37:=by rw[hD,List.length_map,hN,sortN_length];exact ⟨hel,hel⟩
 have c2:=h.c2
 have hlen:=fun ty=>h.me.len ty
 have hp:0<(ek.length:Int):=by omega
 obtain ⟨m,hm⟩:∃ m,m=ek.length:=⟨_,rfl⟩
 rw[<- hm] at hlen hp
 have h0:=h.dk.ptr
 obtain ⟨bd,rfl⟩:=h0
 have HST:=Lib.hid (fun (w1:World) (vN vD:Value) (hi:IR w1 0 vN N) (hd:BBR w1 0 vD D) (hb:Below w.heap.size w w1)=>
  show Stg w Pd b be bp (.pointer (some ⟨bd,0,none⟩)) q ek eg ev pk pg pv wi w1.heap.size vN vD N D (w1.alloc (.cells #[.int .u32 q,vN,vD] 193)) Pd s from
   ⟨(h.below hb).below (below_box w1 _),(TxVa.own (h.below hb).dk hi hd).chg (Chg.of_below (below_box w1 _)),heap_alloc_new w1 _,(Chg.of_below hb).trans (Chg.of_below (below_box w1 _))⟩)
 have HSH:=Lib.hid (fun (w1:World) (vN vD:Value) (hi:IR w1 0 vN N) (hd:BBR w1 0 vD D)=>And.intro hi.isc.2 hd.sl.shape)
 have hl1:=runA_len (layA q (layWs q N D)) s
 have hlw:(layA q (layWs q N D)).length<=50:=by
  unfold layA layWs
  simp only[List.length_append,List.length_map,List.length_range,List.length_cons,List.length_nil]
  omega
 have hlh:(homeA N D).length<=40:=by
  rw[homeA_length];omega
 have HW:=Lib.hid (fun (g:Nat) (vN vD:Value) (W:World) (P':Nat->Prop) (hs:Stg w Pd b be bp (.pointer (some ⟨bd,0,none⟩)) q ek eg ev pk pg pv wi g vN vD N D W P' s)=>hs.write hB (by omega))
 have er:=runA_append (layA q (layWs q N D)) (homeA N D ++ [.f]) s
 have HQ:=Lib.hid h.q0
 obtain ⟨R,hR⟩:∃ R,R=runA (setA q N D) s:=⟨_,rfl⟩
 have hR':=hR
 unfold setA at hR'
 rw[er] at hR'
 rw[<- hR]
 have hr1:=runA_two (layA q (layWs q N D)) s
 obtain ⟨r1,s1,h1⟩:∃ r1 s1,runA (layA q (layWs q N D)) s=(r1,s1):=⟨_,_,rfl⟩
 rw[h1] at HW hl1 hR' hr1
 simp only at hl1
 have HH:=Lib.hid (fun (g:Nat) (vN vD:Value) (W:World) (P':Nat->Prop) (hs:Stg w Pd b be bp (.pointer (some ⟨bd,0,none⟩)) q ek eg ev pk pg pv wi g vN vD N D W P' s1)=>hs.home (by rw[hl1.1];exact hB) (by omega))
 have er2:=runA_append (homeA N D) [.f] s1
 rw[er2] at hR'
 have hl2:=runA_len (homeA N D) s1
 have hr2:=runA_two (homeA N D) s1
 obtain ⟨r2,s2,h2⟩:∃ r2 s2,runA (homeA N D) s1=(r2,s2):=⟨_,_,rfl⟩
 rw[h2] at HH hl2 hR' hr2
 simp only at hl2
 have HF:=Lib.hid (fun (g:Nat) (vN vD:Value) (W:World) (P':Nat->Prop) (hs:Stg w Pd b be bp (.pointer (some ⟨bd,0,none⟩)) q ek eg ev pk pg pv wi g vN vD N D W P' s2)=>hs.flush (by omega))
 have hr3:=runA_two [.f] s2
 obtain ⟨r3,s3,h3⟩:∃ r3 s3,runA [.f] s2=(r3,s3):=⟨_,_,rfl⟩
 rw[h3] at HF hR' hr3
 have hwq:∃ q',IntKind.u32.wrap (q+1)=q'/\0<=q'/\q'<4294967296:=⟨(q+1)%4294967296,by simp[IntKind.wrap,IntKind.signed,IntKind.bits],by omega,by omega⟩
 obtain ⟨q',hq',hq0⟩:=hwq
 have HQ':=Lib.hid hq0
 clear h hel hB hU hN hD h37 hm hl1 hl2 hlw hlh er er2 h1 h2 h3 hne hq0 hR
 simp only at hr1 hr2 hr3 HW HH HF hR'
 rcases hr1 with rfl|rfl
 · rcases hr2 with rfl|rfl
   · rcases hr3 with rfl|rfl
     · -- all is done
       rw[if_pos rfl,if_pos rfl] at hR'
       subst hR'
       go_enter Tryz.func83,Tryz.ntmps83
       go_wp2_with (go_at_call 124;(with_reducible refine KT.out.mono ?_);rintro e w1 ⟨vN,vD,rfl,hi,hd,hb⟩
                    have HS:=Lib.hid (HST.out w1 vN vD hi hd hb)
                    obtain ⟨⟨no,nc,rfl,_⟩,ao,dc,rfl,_⟩:=HSH.out w1 vN vD hi hd
                    clear hi hd hb)
       generalize hgg:w1.heap.size=g at HS
       generalize w1.alloc (.cells #[.int .u32 q,.slice no N.length nc,.slice ao D.length dc] 193)=W2 at HS |-
       obtain ⟨k0,k1,k2,k3⟩:=HS.out.facts
       generalize N.length=ln at HS k2 |-
       generalize D.length=ld at HS k3 |-
       have KW:=Lib.hid (HW.out g _ _ W2.drew _ (HS.out.below (Below.refl _ W2).drew))
       go_still_tail 5,(by kernel_rfl)
       go_wp2_with (first
                    |(go_at_call 125;(with_reducible refine KW.out.mono ?_);rintro e W3 ⟨rfl,P3,hs3⟩
                      have HS3:=Lib.hid hs3
                      obtain ⟨l0,l1,l2,l3⟩:=hs3.facts
                      clear hs3))
       have hmm:=@run_makeMap Tryz.prog
       have KH:=Lib.hid (HH.out g _ _ W3.drew _ (HS3.out.below (Below.refl _ W3).drew))
       go_still_tail 5,(by kernel_rfl)
       go_wp2_with (first
                    |(go_at_call 126;(with_reducible refine KH.out.mono ?_);rintro e W4 ⟨rfl,P4,hs4⟩
                      have HS4:=Lib.hid hs4
                      obtain ⟨m0,m1,m2,m3⟩:=hs4.facts
                      clear hs4)
                    |(go_at_call 127;(with_reducible refine (HF.out g _ _ W4 _ HS4.out).mono ?_);rintro e W5 ⟨rfl,P5,hs5⟩
                      have HS5:=Lib.hid hs5
                      have n1:=hs5.sm.c1
                      have n2:=hs5.sm.c2
                      have f1:=hs5.sm.fr 1
                      have f2:=hs5.sm.fr 2
                      have hbl:=hs5.sm.bl
                      have hbn:b≠W5.heap.size:=Nat.ne_of_lt hs5.sm.bl
                      have hbn':W5.heap.size≠b:=fun e=>hbn e.symm
                      clear hs5))
       go_ret
       exact .inl ⟨rfl,rfl,HS5.out.fresh HQ'.out⟩
     · rw[if_pos rfl,if_pos rfl] at hR'
       subst hR'
       go_enter Tryz.func83,Tryz.ntmps83
       go_wp2_with (go_at_call 124;(with_reducible refine KT.out.mono ?_);rintro e w1 ⟨vN,vD,rfl,hi,hd,hb⟩
                    have HS:=Lib.hid (HST.out w1 vN vD hi hd hb)
                    obtain ⟨⟨no,nc,rfl,_⟩,ao,dc,rfl,_⟩:=HSH.out w1 vN vD hi hd
                    clear hi hd hb)
       generalize hgg:w1.heap.size=g at HS
       generalize w1.alloc (.cells #[.int .u32 q,.slice no N.length nc,.slice ao D.length dc] 193)=W2 at HS |-
       obtain ⟨k0,k1,k2,k3⟩:=HS.out.facts
       generalize N.length=ln at HS k2 |-
       generalize D.length=ld at HS k3 |-
       have KW:=Lib.hid (HW.out g _ _ W2.drew _ (HS.out.below (Below.refl _ W2).drew))
       go_still_tail 5,(by kernel_rfl)
       go_wp2_with (first
                    |(go_at_call 125;(with_reducible refine KW.out.mono ?_);rintro e W3 ⟨rfl,P3,hs3⟩
                      have HS3:=Lib.hid hs3
                      obtain ⟨l0,l1,l2,l3⟩:=hs3.facts
                      clear hs3))
       have KH:=Lib.hid (HH.out g _ _ W3.drew _ (HS3.out.below (Below.refl _ W3).drew))
       go_still_tail 5,(by kernel_rfl)
       go_wp2_with (first
                    |(go_at_call 126;(with_reducible refine KH.out.mono ?_);rintro e W4 ⟨rfl,P4,hs4⟩
                      have HS4:=Lib.hid hs4
                      obtain ⟨m0,m1,m2,m3⟩:=hs4.facts
                      clear hs4)
                    |(go_at_call 127;(with_reducible refine (HF.out g _ _ W4 _ HS4.out).mono ?_);rintro e W5 ⟨rfl,P5,hs5⟩
                      have HS5:=Lib.hid hs5
                      have n1:=hs5.sm.c1
                      have n2:=hs5.sm.c2
                      have f1:=hs5.sm.fr 1
                      have f2:=hs5.sm.fr 2
                      have hbl:=hs5.sm.bl
                      have hbn:b≠W5.heap.size:=Nat.ne_of_lt hs5.sm.bl
                      have hbn':W5.heap.size≠b:=fun e=>hbn e.symm
                      clear hs5)
                    |(go_at_call 51;(with_reducible refine HS5.out.over.mono ?_);rintro e w9 ⟨rfl,hx9⟩))
       go_ret
       exact .inr ⟨rfl,rfl,hx9⟩
   · rw[if_pos rfl,if_neg (by decide)] at hR'
     subst hR'
     go_enter Tryz.func83,Tryz.ntmps83
     go_wp2_with (go_at_call 124;(with_reducible refine KT.out.mono ?_);rintro e w1 ⟨vN,vD,rfl,hi,hd,hb⟩
                  have HS:=Lib.hid (HST.out w1 vN vD hi hd hb)
                  obtain ⟨⟨no,nc,rfl,_⟩,ao,dc,rfl,_⟩:=HSH.out w1 vN vD hi hd
                  clear hi hd hb)
     generalize hgg:w1.heap.size=g at HS
     generalize w1.alloc (.cells #[.int .u32 q,.slice no N.length nc,.slice ao D.length dc] 193)=W2 at HS |-
     obtain ⟨k0,k1,k2,k3⟩:=HS.out.facts
     generalize N.length=ln at HS k2 |-
     generalize D.length=ld at HS k3 |-
     have KW:=Lib.hid (HW.out g _ _ W2.drew _ (HS.out.below (Below.refl _ W2).drew))
     go_still_tail 5,(by kernel_rfl)
     go_wp2_with (first
                  |(go_at_call 125;(with_reducible refine KW.out.mono ?_);rintro e W3 ⟨rfl,P3,hs3⟩
                    have HS3:=Lib.hid hs3
                    obtain ⟨l0,l1,l2,l3⟩:=hs3.facts
                    clear hs3))
     have KH:=Lib.hid (HH.out g _ _ W3.drew _ (HS3.out.below (Below.refl _ W3).drew))
     go_still_tail 5,(by kernel_rfl)
     go_wp2_with (first
                  |(go_at_call 126;(with_reducible refine KH.out.mono ?_);rintro e W4 ⟨rfl,P4,hs4⟩
                    have HS4:=Lib.hid hs4
                    obtain ⟨m0,m1,m2,m3⟩:=hs4.facts
                    clear hs4)
                  |(go_at_call 51;(with_reducible refine HS4.out.over.mono ?_);rintro e w9 ⟨rfl,hx9⟩))
     go_ret
     exact .inr ⟨rfl,rfl,hx9⟩
 · rw[if_neg (by decide)] at hR'
   subst hR'
   clear HH HF
   go_enter Tryz.func83,Tryz.ntmps83
   go_wp2_with (go_at_call 124;(with_reducible refine KT.out.mono ?_);rintro e w1 ⟨vN,vD,rfl,hi,hd,hb⟩
                have HS:=Lib.hid (HST.out w1 vN vD hi hd hb)
                obtain ⟨⟨no,nc,rfl,_⟩,ao,dc,rfl,_⟩:=HSH.out w1 vN vD hi hd
                clear hi hd hb)
   generalize hgg:w1.heap.size=g at HS
   generalize w1.alloc (.cells #[.int .u32 q,.slice no N.length nc,.slice ao D.length dc] 193)=W2 at HS |-
   obtain ⟨k0,k1,k2,k3⟩:=HS.out.facts
   generalize N.length=ln at HS k2 |-
   generalize D.length=ld at HS k3 |-
   have KW:=Lib.hid (HW.out g _ _ W2.drew _ (HS.out.below (Below.refl _ W2).drew))
   go_still_tail 5,(by kernel_rfl)
   go_wp2_with (first
                |(go_at_call 125;(with_reducible refine KW.out.mono ?_);rintro e W3 ⟨rfl,P3,hs3⟩
                  have HS3:=Lib.hid hs3
                  obtain ⟨l0,l1,l2,l3⟩:=hs3.facts
                  clear hs3)
                |(go_at_call 51;(with_reducible refine HS3.out.over.mono ?_);rintro e w9 ⟨rfl,hx9⟩))
   go_ret
   exact .inr ⟨rfl,rfl,hx9⟩
end
def pickG {α:Type} (pk:List Int) (p e:Int->α) (x:Int):α:=if x∈pk then p x else e x
section
variable {w:World}{Pd:Nat->Prop}{b be bp:Nat}{d:Value}{q:Int}{ek:List Int}{eg:Int->Value}{ev:Int->List Int}{pk:List Int}{pg:Int->Value}{pv:Int->List Int}{wi:Bool}{s:DS}
theorem SMem.copied (h:SMem w Pd b be bp d q ek eg ev pk pg pv wi s) {w':World} (hm:Mp w' be (uniN ek pk) (pickG pk pg eg)) (hp:Mp w' bp pk pg) (hg:w.grownBy w' (some be)):SMem w' Pd b be bp d q (uniN ek pk) (pickG pk pg eg) (pickG pk pv ev) pk pg pv wi s:=by
 have hk:∀ k,k<w.heap.size->k≠be->w'.heap[k]? =w.heap[k]? :=fun k hl hn=>hg.block k hl fun e=>hn (Option.some.inj e)
 refine ⟨by rw[hk b h.bl fun e=>h.nb.1 e.symm];exact h.hb,h.dk.same fun k hpd=>hk k (h.dk.lt k hpd) fun e=>Mp.nd h.dk h.me (e ▸ hpd),h.q0,hm,hp,h.ne,fun x hx=>?_,fun x hx=>(h.rp x hx).keep fun g hg'=>hk g ((h.rp x hx).lt hg') ((h.rp x hx).nm hg' h.me)⟩
 unfold pickG
 by_cases hin:x∈pk
 · rw[if_pos hin,if_pos hin]
   exact (h.rp x hin).keep fun g hg'=>hk g ((h.rp x hin).lt hg') ((h.rp x hin).nm hg' h.me)
 · rw[if_neg hin,if_neg hin]
   have hx':=(mem_uniN.1 hx).resolve_right hin
   exact (h.re x hx').keep fun g hg'=>hk g ((h.re x hx').lt hg') ((h.re x hx').nm hg' h.me)
theorem SMem.copy (h:SMem w Pd b be bp d q ek eg ev pk pg pv wi s) (hel:ek.length<=1000) (hpl:pk.length<=1000):Calls Tryz.prog 84 #[.map (some be),.map (some bp)] w fun e w'=>e=.returned (.tuple #[])/\SMem w' Pd b be bp d q (uniN ek pk) (pickG pk pg eg) (pickG pk pv ev) pk pg pv wi s/\Ext (fun k=>k=be) w w':=
 (mCopy_of h.me h.mp h.ne (by omega)).mono fun e w' ⟨he,hm,hp,hg⟩=>⟨he,h.copied hm hp hg,Ext.of_grown hg rfl⟩
theorem SMem.cleared (h:SMem w Pd b be bp d q ek eg ev pk pg pv wi s) (pg':Int->Value) (pv':Int->List Int):
 let w':=((w.setCell ⟨b,3,none⟩ (.map (some w.heap.size))).setCell ⟨b,4,none⟩ (.bool false)).alloc (.map #[] 0)
 SMem w' Pd b be w.heap.size d q ek eg ev [] pg' pv' false s/\w'.heap.size=w.heap.size+1/\Ext (fun k=>k=b) w w':=by
 intro w'
 obtain ⟨w2,hw2⟩:∃ w2,w2=(w.setCell ⟨b,3,none⟩ (.map (some w.heap.size))).setCell ⟨b,4,none⟩ (.bool false):=⟨_,rfl⟩
 have hw':w'=w2.alloc (.map #[] 0):=by rw[hw2]
 have hs2:w2.heap.size=w.heap.size:=by rw[hw2];simp[World.setCell]
 have hwr:Wrote w w2 b:=by rw[hw2];exact (Wrote.setCell w b 3 _).and (Wrote.setCell _ b 4 _)
 have hbb:Below w2.heap.size w2 w':=by rw[hw'];exact below_box w2 _
 have e1:=heap_setCell_same w b 3 _ _ (.map (some w.heap.size)) h.hb
 have e2:=heap_setCell_same _ b 4 _ _ (.bool false) e1
 rw[<- hw2] at e2
 have e3:=(hbb.block b (by rw[hs2];exact h.bl)).trans e2
 have hsz:w'.heap.size=w.heap.size+1:=by rw[hw'];simp[hs2]
 have hk:∀ k,k<w.heap.size->k≠b->w'.heap[k]? =w.heap[k]? :=fun k hl hn=>(hbb.block k (by rw[hs2];exact hl)).trans (hwr.2.2.2.2 k hn)
 have hM:Mp w' w.heap.size [] pg':=by
  have h0:=Mp.made w2 pg'
  rw[hs2,<- hw'] at h0
  exact h0
 have hbe:=h.me.lt
 refine ⟨⟨e3,h.dk.same fun k hp=>hk k (h.dk.lt k hp) fun e=>h.nd (e ▸ hp),h.q0,h.me.keep (hk be hbe h.nb.1),hM,fun e=>by rw[e] at hbe;exact Nat.lt_irrefl _ hbe,
  fun x hx=>(h.re x hx).keep fun r hr=>hk r ((h.re x hx).lt hr) ((h.re x hx).ne hr h.hb (by decide)),fun x hx=>absurd hx List.not_mem_nil⟩,hsz,
  ⟨hbb.os.trans hwr.1,hbb.tape.trans hwr.2.1,hbb.output.trans hwr.2.2.1,by rw[hsz];omega,fun k hl hn=>hk k hl hn⟩⟩
theorem sJoin_small (h:SMem w Pd b be bp d q ek eg ev pk pg pv wi s) (hel:ek.length<=37) (hpl:pk.length<=37) (hu:(uniN ek pk).length<=37):
 Calls Tryz.prog 52 #[.pointer (some ⟨b,0,none⟩)] w fun e w'=>e=.returned (.int .i64 0)/\SMem w' Pd b be bp d q (uniN ek pk) (pickG pk pg eg) (pickG pk pv ev) pk pg pv wi s/\Ext (fun k=>k=be) w w':=by
 have KT:=Lib.hid (sTogether_is h (by omega) (by omega))
 have HB:=Lib.hid (fun (W:World) (hb:Below w.heap.size w W)=>h.below hb)
 have KC:=Lib.hid (fun (W:World) (hb:Below w.heap.size w W)=>(h.below hb).copy (by omega) (by omega))
 have hle:((uniN ek pk).length:Int)<=37:=by omega
 obtain ⟨R,hR⟩:∃ R,R=(uniN ek pk).length:=⟨_,rfl⟩
 rw[<- hR] at KT hle
 clear h hel hpl hu hR
 go_enter Tryz.func52,Tryz.ntmps52
 go_wp2_with (go_at_call 82;(with_reducible refine KT.out.mono ?_);rintro e w1 ⟨rfl,hb1⟩
              have HB1:=Lib.hid hb1
              have c2:=(HB.out w1 hb1).c2
              have c3:=(HB.out w1 hb1).c3
              clear hb1)
 have KC1:=Lib.hid (KC.out w1.drew HB1.out.drew)
 go_still_tail 8,(by kernel_rfl)
 go_wp2_with (go_at_call 84;(with_reducible refine KC1.out.mono ?_);rintro e w2 ⟨rfl,hm,hx⟩
              have HM:=Lib.hid hm
              have HX:=Lib.hid hx
              clear hm hx)
 go_ret
 exact ⟨rfl,HM.out,(Ext.of_below HB1.out.drew).trans (P2:=fun k=>k=be) HX.out fun k _ e=>e⟩
set_option maxHeartbeats 1000000 in
theorem sJoin_great (h:SMem w Pd b be bp d q ek eg ev pk pg pv wi s) (hel:ek.length<=37) (hpl:pk.length<=37) (hu:37<(uniN ek pk).length) (hB:takesT s.F.length (sortN ek) ((sortN ek).map ev)=true) (hU:s.U.length<=800000):
 Calls Tryz.prog 52 #[.pointer (some ⟨b,0,none⟩)] w fun e w'=>
  ((runA (setA q (sortN ek) ((sortN ek).map ev)) s).1=0/\e=.returned (.int .i64 0)/\∃ be' Pd' q',SMem w' Pd' b be' bp d q' (uniN [] pk) (pickG pk pg eg) (pickG pk pv ev) pk pg pv wi (runA (setA q (sortN ek) ((sortN ek).map ev)) s).2/\(w.heap.size<=be'/\be'<w'.heap.size)/\(∀ k,Pd' k->Pd k\/w.heap.size<=k)/\Ext (fun k=>Pd k\/k=b) w w')\/
  ((runA (setA q (sortN ek) ((sortN ek).map ev)) s).1=2/\e=.returned (.int .i64 2)/\∃ Pd',w'.heap[b]? =some deadRow/\Dk w' Pd' d (runA (setA q (sortN ek) ((sortN ek).map ev)) s).2/\(∀ k,Pd' k->Pd k\/w.heap.size<=k)/\Ext (fun k=>Pd k\/k=b) w w'):=by
 have hne:0<ek.length:=by
  rcases Nat.eq_zero_or_pos ek.length with e|e
  · have:ek=[]:=List.eq_nil_of_length_eq_zero e
    rw[this] at hu
    have h2:(uniN [] pk).length<=pk.length:=by
     unfold uniN
     rw[List.nil_append]
     exact List.length_filter_le _ _
    omega
  · exact e
 have KT:=Lib.hid (sTogether_is h (by omega) (by omega))
 have KS:=Lib.hid (fun (W:World) (hb:Below w.heap.size w W)=>sSettle_of (h.below hb) hne hel hB hU)
 have HPL:=Lib.hid hpl
 have hgt:37<((uniN ek pk).length:Int):=by omega
 obtain ⟨R,hR⟩:∃ R,R=(uniN ek pk).length:=⟨_,rfl⟩
 rw[<- hR] at KT hgt
 obtain ⟨T,hT⟩:∃ T,T=runA (setA q (sortN ek) ((sortN ek).map ev)) s:=⟨_,rfl⟩
 have hT2:T.1=0\/T.1=2:=by rw[hT];exact runA_two _ _
 rw[<- hT] at KS |-
 obtain ⟨r,s'⟩:=T
 clear h hel hpl hu hR hT hB hU hne
 rcases hT2 with h0|h0
 · simp only at h0
   subst h0
   have KS':=Lib.hid (fun (W:World) (hb:Below w.heap.size w W)=>(KS.out W hb).mono (R':=fun e w'=>e=.returned (.int .i64 0)/\∃ be' Pd' q',SMem w' Pd' b be' bp d q' [] eg ev pk pg pv wi s'/\(W.heap.size<=be'/\be'<w'.heap.size)/\(∀ k,Pd' k->Pd k\/W.heap.size<=k)/\Ext (fun k=>Pd k\/k=b) W w') (fun e w' hq=>by
    rcases hq with ⟨_,he,hx⟩| ⟨h2,_⟩
    · exact ⟨he,hx⟩
    · exact absurd (show (0:Int)=2 from h2) (by decide)))
   clear KS
   go_enter Tryz.func52,Tryz.ntmps52
   go_wp2_with (first
    |(go_at_call 82;(with_reducible refine KT.out.mono ?_);rintro e w1 ⟨rfl,hb1⟩
      have HB1:=Lib.hid hb1
      clear hb1)
    |(go_at_call 83;(with_reducible refine (KS'.out _ HB1.out).mono ?_);rintro e w2 ⟨rfl,be',Pd',q',hm,hbe,hpd,hx⟩
      have HM:=Lib.hid hm
      have HBE:=Lib.hid hbe
      have HPD:=Lib.hid hpd
      have HX:=Lib.hid hx
      have c2:=hm.c2
      have c3:=hm.c3
      clear hm hbe hpd hx))
   have KC1:=Lib.hid (SMem.copy (HM.out.below (Below.refl _ w2).drew) (Nat.zero_le _) (by have:=HPL.out;omega))
   go_still_tail 8,(by kernel_rfl)
   go_wp2_with (go_at_call 84;(with_reducible refine KC1.out.mono ?_);rintro e w3 ⟨rfl,hm,hx⟩
                have HM3:=Lib.hid hm
                have HX3:=Lib.hid hx
                clear hm hx)
   go_ret
   refine .inl ⟨by first|rfl|trivial,rfl,be',Pd',q',HM3.out,⟨Nat.le_trans HB1.out.size HBE.out.1,Nat.lt_of_lt_of_le HBE.out.2 HX3.out.size⟩,fun k hk=>(HPD.out k hk).imp id fun e=>Nat.le_trans HB1.out.size e,?_⟩
   have e1:Ext (fun k=>Pd k\/k=b) w w2:=(Ext.of_below HB1.out).trans (P2:=fun k=>Pd k\/k=b) HX.out fun k _ e=>e
   have e2:Ext (fun k=>k=be') w2 w3:=⟨HX3.out.os,HX3.out.tape,HX3.out.output,HX3.out.size,HX3.out.keep⟩
   exact e1.trans e2 fun k hk e=>absurd (e ▸ hk) (by have:=HBE.out.1;have:=HB1.out.size;omega)
 · simp only at h0
   subst h0
   have KS':=Lib.hid (fun (W:World) (hb:Below w.heap.size w W)=>(KS.out W hb).mono (R':=fun e w'=>e=.returned (.int .i64 2)/\∃ Pd',w'.heap[b]? =some deadRow/\Dk w' Pd' d s'/\(∀ k,Pd' k->Pd k\/W.heap.size<=k)/\Ext (fun k=>Pd k\/k=b) W w') (fun e w' hq=>by
    rcases hq with ⟨h2,_⟩| ⟨_,he,hx⟩
    · exact absurd (show (2:Int)=0 from h2) (by decide)
    · exact ⟨he,hx⟩))
   clear KS
   go_enter Tryz.func52,Tryz.ntmps52
   go_wp2_with (first
    |(go_at_call 82;(with_reducible refine KT.out.mono ?_);rintro e w1 ⟨rfl,hb1⟩
      have HB1:=Lib.hid hb1
      clear hb1)
    |(go_at_call 83;(with_reducible refine (KS'.out _ HB1.out).mono ?_);rintro e w2 ⟨rfl,Pd',hbr,hdk,hpd,hx⟩
      have HBR:=Lib.hid hbr
      have HDK:=Lib.hid hdk
      have HPD:=Lib.hid hpd
      have HX:=Lib.hid hx
      clear hbr hdk hpd hx))
   go_ret
   exact .inr ⟨by first|rfl|trivial,rfl,Pd',HBR.out,HDK.out,fun k hk=>(HPD.out k hk).imp id fun e=>Nat.le_trans HB1.out.size e,(Ext.of_below HB1.out).trans (P2:=fun k=>Pd k\/k=b) HX.out fun k _ e=>e⟩
end
theorem sinv_of {w w':World}{P Pd:Nat->Prop}{b be bp:Nat}{d:Value}{q:Int}{ek:List Int}{eg:Int->Value}{ev:Int->List Int}{pk:List Int}{pg:Int->Value}{pv:Int->List Int}{X:XSt} (hm:SMem w' Pd b be bp d q ek eg ev pk pg pv X.wi X.ds) (hpl:SPl X ek ev pk pv)
 (hl:∀ k,P k->k<w.heap.size) (hs:w.heap.size<=w'.heap.size) (hown:∀ k,SOwn Pd b be bp ek eg pk pg k->P k\/w.heap.size<=k):SInv w' (grP P w w') d (.pointer (some ⟨b,0,none⟩)) X:=
 ⟨b,be,bp,Pd,q,ek,eg,ev,pk,pg,pv,rfl,hm,hpl,fun k hk=>(hown k hk).imp id fun e=>⟨e,hm.lt k hk⟩,fun k hk=>hk.elim (fun h=>Nat.lt_of_lt_of_le (hl k h) hs) fun h=>h.2⟩
section
variable {w:World}{Pd:Nat->Prop}{b be bp:Nat}{d:Value}{q:Int}{ek:List Int}{eg:Int->Value}{ev:Int->List Int}{pk:List Int}{pg:Int->Value}{pv:Int->List Int}{wi:Bool}{s:DS}
theorem sEnd_undo (h:SMem w Pd b be bp d q ek eg ev pk pg pv true s):Calls Tryz.prog 19 #[.pointer (some ⟨b,0,none⟩),.bool false] w fun e w'=>e=.returned (.int .i64 0)/\w'=((w.setCell ⟨b,3,none⟩ (.map (some w.heap.size))).setCell ⟨b,4,none⟩ (.bool false)).alloc (.map #[] 0):=by
 have KA:=Lib.hid (sAllows_is h true)
 have c3:=h.c3
 have c4:=h.c4
 have f3:=h.fr 3
 have f4:=h.fr 4
 have hbl:=h.bl
 have hbn:b≠w.heap.size:=Nat.ne_of_lt h.bl
 have hbn':w.heap.size≠b:=fun e=>hbn e.symm
 have hmm:=@run_makeMap Tryz.prog
 clear h
 go_enter Tryz.func19,Tryz.ntmps19
 go_wp2_with (go_at_call 35;(with_reducible refine KA.out.mono ?_);rintro e w1 ⟨rfl,rfl⟩)
 go_ret
 exact ⟨rfl,rfl⟩
theorem sEnd_keep {Q:World->Prop} (h:SMem w Pd b be bp d q ek eg ev pk pg pv true s)
 (KJ:Calls Tryz.prog 52 #[.pointer (some ⟨b,0,none⟩)] w fun e w1=>e=.returned (.int .i64 0)/\Q w1/\∃ Pd1 be1 q1 ek1 eg1 ev1 s1,SMem w1 Pd1 b be1 bp d q1 ek1 eg1 ev1 pk pg pv true s1):
 Calls Tryz.prog 19 #[.pointer (some ⟨b,0,none⟩),.bool true] w fun e w'=>e=.returned (.int .i64 0)/\∃ w1,Q w1/\w'=((w1.setCell ⟨b,3,none⟩ (.map (some w1.heap.size))).setCell ⟨b,4,none⟩ (.bool false)).alloc (.map #[] 0):=by
 have KA:=Lib.hid (sAllows_is h true)
 have KJ':=Lib.hid KJ
 have hmm:=@run_makeMap Tryz.prog
 clear h KJ
 go_enter Tryz.func19,Tryz.ntmps19
 go_wp2_with (first
  |(go_at_call 35;(with_reducible refine KA.out.mono ?_);rintro e w1 ⟨rfl,rfl⟩)
  |(go_at_call 52;(with_reducible refine KJ'.out.mono ?_);rintro e w1 ⟨rfl,hq,Pd1,be1,q1,ek1,eg1,ev1,s1,h⟩
    have HQ:=Lib.hid hq
    have c3:=h.c3
    have c4:=h.c4
    have f3:=h.fr 3
    have f4:=h.fr 4
    have hbl:=h.bl
    have hbn:b≠w1.heap.size:=Nat.ne_of_lt h.bl
    have hbn':w1.heap.size≠b:=fun e=>hbn e.symm
    clear h hq))
 go_ret
 exact ⟨rfl,w1,HQ.out,rfl⟩
theorem sEnd_dead {Q:World->Prop} (h:SMem w Pd b be bp d q ek eg ev pk pg pv true s)
 (KJ:Calls Tryz.prog 52 #[.pointer (some ⟨b,0,none⟩)] w fun e w1=>e=.returned (.int .i64 2)/\Q w1):
 Calls Tryz.prog 19 #[.pointer (some ⟨b,0,none⟩),.bool true] w fun e w'=>e=.returned (.int .i64 2)/\Q w':=by
 have KA:=Lib.hid (sAllows_is h true)
 have KJ':=Lib.hid KJ
 clear h KJ
 go_enter Tryz.func19,Tryz.ntmps19
 go_wp2_with (first
  |(go_at_call 35;(with_reducible refine KA.out.mono ?_);rintro e w1 ⟨rfl,rfl⟩)
  |(go_at_call 52;(with_reducible refine KJ'.out.mono ?_);rintro e w1 ⟨rfl,hq⟩
    have HQ:=Lib.hid hq
    clear hq))
 go_ret
 exact ⟨rfl,HQ.out⟩
theorem sEnd_no (h:SMem w Pd b be bp d q ek eg ev pk pg pv false s) (k:Bool):Calls Tryz.prog 19 #[.pointer (some ⟨b,0,none⟩),.bool k] w fun e w'=>e=.returned (.int .i64 17)/\w=w':=by
 have KA:=Lib.hid (sAllows_is h true)
 clear h
 go_enter Tryz.func19,Tryz.ntmps19
 go_wp2_with (go_at_call 35;(with_reducible refine KA.out.mono ?_);rintro e w1 ⟨rfl,rfl⟩)
 go_ret
 exact ⟨rfl,rfl⟩
end
section
variable {X:XSt}{ek:List Int}{ev:Int->List Int}{pk:List Int}{pv:Int->List Int}
theorem SPl.base (h:SPl X ek ev pk pv):X.base.length=X.is.length:=h.ok.lst.glen
theorem SPl.undo (h:SPl X ek ev pk pv) (pv':Int->List Int):SPl { X with wi:=false } ek ev [] pv':=
 { h with ok:={ h.ok with call:=fun e=>Bool.noConfusion (show false=true from e) },kp:=fun x hx=>absurd hx List.not_mem_nil,pl:=Nat.zero_le _,wi0:=fun _=>rfl,wi1:=fun e=>Bool.noConfusion (show false=true from e) }
theorem SPl.merged (h:SPl X ek ev pk pv) (hw:X.wi=true) (i:Nat) (ho:OutJ i) (hi:i<X.is.length):X.call.getD i []=if (i:Int)∈uniN ek pk then pickG pk pv ev i else X.base.getD i []:=by
 obtain ⟨_,_,h2⟩:=h.wi1 hw
 rw[h2 i ho hi,h.isx i ho hi]
 unfold pickG
 by_cases hp:(i:Int)∈pk
 · rw[if_pos hp,if_pos (mem_uniN.2 (.inr hp)),if_pos hp]
 · rw[if_neg hp]
   by_cases he:(i:Int)∈ek
   · rw[if_pos he,if_pos (mem_uniN.2 (.inl he)),if_neg hp]
   · rw[if_neg he,if_neg fun e=>(mem_uniN.1 e).elim he hp]
theorem SPl.small (h:SPl X ek ev pk pv) (hw:X.wi=true) (hu:(uniN ek pk).length<=37) (pv':Int->List Int):SPl { X with base:=X.base,is:=X.call,wi:=false,dt:=(uniN ek pk).length,ds:=X.ds } (uniN ek pk) (pickG pk pv ev) [] pv':=by
 obtain ⟨_,hcl,_⟩:=h.wi1 hw
 have hcl':X.call.length=X.is.length:=hcl
 refine ⟨⟨?_,h.ok.pow,h.ok.un,fun e=>Bool.noConfusion (show false=true from e),hu⟩,?_,h.u0,?_,fun x hx=>absurd hx List.not_mem_nil,hu,Nat.zero_le _,rfl,?_,fun _=>rfl,fun e=>Bool.noConfusion (show false=true from e)⟩
 · show Lst X.call.length X.ds X.base
   rw[hcl'];exact h.ok.lst
 · show 64<=X.call.length/\X.call.length<=768
   rw[hcl'];exact h.n64
 · intro x hx
   show inK X.call.length x
   rw[hcl']
   exact (mem_uniN.1 hx).elim (h.ki x) (h.kp x)
 · intro i ho hi
   have hi':i<X.call.length:=hi
   exact h.merged hw i ho (by omega)
theorem uni_nil (pk:List Int):uniN [] pk=pk:=by
 unfold uniN
 rw[List.nil_append,List.filter_eq_self]
 intro x _
 simp
theorem SPl.great (h:SPl X ek ev pk pv) (hw:X.wi=true) {ds':DS} (hl:Lst X.is.length ds' X.is) (hd:ds'.dn=false) (hU:ds'.U=[]) (pv':Int->List Int):SPl { X with base:=X.is,is:=X.call,wi:=false,dt:=(uniN [] pk).length,ds:=ds' } (uniN [] pk) (pickG pk pv ev) [] pv':=by
 obtain ⟨_,hcl,hcv⟩:=h.wi1 hw
 have hcl':X.call.length=X.is.length:=hcl
 have hpl:(uniN [] pk).length<=37:=by rw[uni_nil];exact h.pl
 refine ⟨⟨?_,hd,by show ds'.U.length<=1000;rw[hU];exact Nat.zero_le _,fun e=>Bool.noConfusion (show false=true from e),hpl⟩,?_,hU,?_,fun x hx=>absurd hx List.not_mem_nil,hpl,Nat.zero_le _,rfl,?_,fun _=>rfl,fun e=>Bool.noConfusion (show false=true from e)⟩
 · show Lst X.call.length ds' X.is
   rw[hcl'];exact hl
 · show 64<=X.call.length/\X.call.length<=768
   rw[hcl'];exact h.n64
 · intro x hx
   show inK X.call.length x
   rw[hcl']
   rw[uni_nil] at hx
   exact h.kp x hx
 · intro i ho hi
   have hi':i<X.call.length:=hi
   show X.call.getD i []=if (i:Int)∈uniN [] pk then pickG pk pv ev i else X.is.getD i []
   rw[uni_nil,hcv i ho (by omega)]
   by_cases hp:(i:Int)∈pk
   · rw[if_pos hp,if_pos hp];unfold pickG;rw[if_pos hp]
   · rw[if_neg hp,if_neg hp]
theorem SPl.okT (h:SPl X ek ev pk pv) (hn:ek.Nodup) (hv:∀ x∈ek,(ev x).length=256):okT X.is.length (sortN ek) ((sortN ek).map ev):=set_ok hn h.el h.ki h.n64.2 hv
theorem SPl.set (h:SPl X ek ev pk pv) (hn:ek.Nodup) (hv:∀ x∈ek,(ev x).length=256) {q:Int} (hq:0<=q/\q<4294967296):
 let r:=runA (setA q (sortN ek) ((sortN ek).map ev)) X.ds
 (r.1=0->r.2.dn=false/\r.2.U=[]/\Lst X.is.length r.2 X.is)/\(r.1=2->X.ds.fu=true/\DeadOk X.is.length r.2 [X.base,X.is]):=by
 intro r
 have hT:=h.okT hn hv
 obtain ⟨h1,h2⟩:=set_plain h.ok.lst (by have:=h.n64.1;omega) h.u0 h.ok.pow hT hq
 have hE:=set_is (B:=X.base) (I:=X.is) h.ki h.base rfl h.isx
 refine ⟨fun h0=>?_,fun h0=>?_⟩
 · obtain ⟨a,b,c⟩:=h1 h0
   exact ⟨a,b,c.toO hE⟩
 · obtain ⟨a,b,c,e⟩:=h2 h0
   refine ⟨a,b,c,fun kp=>?_⟩
   obtain ⟨G,hG,hJ⟩:=e kp
   simp only[List.mem_cons,List.not_mem_nil,or_false] at hG
   rcases hG with rfl|rfl
   · exact ⟨_,by simp,hJ⟩
   · exact ⟨X.is,by simp,hJ.toO hE⟩
end
section
variable {w:World}{P:Nat->Prop}{d p:Value}{X:XSt}
theorem sEndNo_of (h:SInv w P d p X) (hw:X.wi=false) (k:Bool):Calls Tryz.prog 19 #[p,.bool k] w (XOut SInv w P d p (17,X)):=by
 have h':=h
 obtain ⟨b,be,bp,Pd,q,ek,eg,ev,pk,pg,pv,rfl,hm,hpl,ho,hl⟩:=h
 rw[hw] at hm
 exact (sEnd_no hm k).mono fun e w' ⟨he,hww⟩=>by subst hww;exact ⟨he,P,h',Chg.refl _ _⟩
theorem sEndUndo_of (h:SInv w P d p X) (hw:X.wi=true):Calls Tryz.prog 19 #[p,.bool false] w (XOut SInv w P d p (0,{ X with wi:=false })):=by
 obtain ⟨b,be,bp,Pd,q,ek,eg,ev,pk,pg,pv,rfl,hm,hpl,ho,hl⟩:=h
 rw[hw] at hm
 refine (sEnd_undo hm).mono ?_
 rintro e w' ⟨rfl,rfl⟩
 obtain ⟨hm',hsz,hext⟩:=hm.cleared pg pv
 refine ⟨rfl,_,sinv_of hm' (hpl.undo pv) hl hext.size ?_,(hext.sub fun k e=>ho k (.inr (.inl e))).chg⟩
 intro k hk
 rcases hk with hk|rfl|rfl|rfl| ⟨x,hx,hg⟩| ⟨x,hx,_⟩
 · exact .inl (ho k (.inl hk))
 · exact .inl (ho _ (.inr (.inl rfl)))
 · exact .inl (ho _ (.inr (.inr (.inl rfl))))
 · exact .inr (Nat.le_refl _)
 · exact .inl (ho k (.inr (.inr (.inr (.inr (.inl ⟨x,hx,hg⟩))))))
 · exact absurd hx List.not_mem_nil
theorem own_pick {ek pk:List Int}{eg pg:Int->Value}{x:Int}{k:Nat} (hx:x∈uniN ek pk) (hg:(pickG pk pg eg x).ownBlock=some k):(∃ y,y∈ek/\(eg y).ownBlock=some k)\/∃ y,y∈pk/\(pg y).ownBlock=some k:=by
 unfold pickG at hg
 by_cases hp:x∈pk
 · rw[if_pos hp] at hg;exact .inr ⟨x,hp,hg⟩
 · rw[if_neg hp] at hg;exact .inl ⟨x,(mem_uniN.1 hx).resolve_right hp,hg⟩
theorem sEndKeep_of (h:SInv w P d p X) (hw:X.wi=true):Calls Tryz.prog 19 #[p,.bool true] w fun e w'=>
 (∃ B dt ds',(B=X.base\/B=X.is\/B=X.call)/\ds'.fu=X.ds.fu/\XOut SInv w P d p (0,{ X with base:=B,is:=X.call,wi:=false,dt:=dt,ds:=ds' }) e w')\/XDead SDead w P d p X [X.base,X.is,X.call] e w':=by
 obtain ⟨b,be,bp,Pd,q,ek,eg,ev,pk,pg,pv,rfl,hm,hpl,ho,hl⟩:=h
 rw[hw] at hm
 have hv:∀ x∈ek,(ev x).length=256:=fun x hx=>(hm.re x hx).2
 by_cases hu:(uniN ek pk).length<=37
 · refine (sEnd_keep (Q:=fun w1=>SMem w1 Pd b be bp d q (uniN ek pk) (pickG pk pg eg) (pickG pk pv ev) pk pg pv true X.ds/\Ext (fun k=>k=be) w w1) hm ((sJoin_small hm hpl.el hpl.pl hu).mono fun e w1 ⟨he,h1,hx⟩=>⟨he,⟨h1,hx⟩,_,_,_,_,_,_,_,h1⟩)).mono ?_
   rintro e w' ⟨rfl,w1,⟨hm1,hx1⟩,rfl⟩
   obtain ⟨hm',hsz,hext⟩:=hm1.cleared pg pv
   have hE:Ext (fun k=>k=be\/k=b) w _:=(hx1.sub fun k e=>.inl e).trans (P2:=fun k=>k=b) hext fun k _ e=>.inr e
   refine .inl ⟨X.base,(uniN ek pk).length,X.ds,.inl rfl,rfl,rfl,_,sinv_of hm' (hpl.small hw hu pv) hl hE.size ?_,(hE.sub fun k e=>e.elim (fun e=>ho k (.inr (.inr (.inl e)))) fun e=>ho k (.inr (.inl e))).chg⟩
   intro k hk
   rcases hk with hk|rfl|rfl|rfl| ⟨x,hx,hg⟩| ⟨x,hx,_⟩
   · exact .inl (ho k (.inl hk))
   · exact .inl (ho _ (.inr (.inl rfl)))
   · exact .inl (ho _ (.inr (.inr (.inl rfl))))
   · exact .inr hx1.size
   · exact .inl (ho k (.inr (.inr (.inr (.inr (own_pick hx hg))))))
   · exact absurd hx List.not_mem_nil
 · have hT:=hpl.okT hm.me.nodup hv
   obtain ⟨s1,s2⟩:=hpl.set hm.me.nodup hv hm.q0
   have hB:takesT X.ds.F.length (sortN ek) ((sortN ek).map ev)=true:=by rw[hpl.ok.lst.1];exact hT.takes hpl.n64.1
   have KJ:=sJoin_great hm hpl.el hpl.pl (by omega) hB (by rw[hpl.u0];exact Nat.zero_le _)
   have hfu:=runA_fu (setA q (sortN ek) ((sortN ek).map ev)) X.ds
   have hr:=runA_two (setA q (sortN ek) ((sortN ek).map ev)) X.ds
   generalize runA (setA q (sortN ek) ((sortN ek).map ev)) X.ds=r at s1 s2 KJ hfu hr
   obtain ⟨r,s'⟩:=r
   rcases hr with h0|h0
   · simp only at h0
     subst h0
     obtain ⟨g1,g2,g3⟩:=s1 rfl
     refine (sEnd_keep (Q:=fun w1=>∃ be' Pd' q',SMem w1 Pd' b be' bp d q' (uniN [] pk) (pickG pk pg eg) (pickG pk pv ev) pk pg pv true s'/\(w.heap.size<=be'/\be'<w1.heap.size)/\(∀ k,Pd' k->Pd k\/w.heap.size<=k)/\Ext (fun k=>Pd k\/k=b) w w1) hm (KJ.mono fun e w1 hq=>by
      rcases hq with ⟨_,he,hx⟩| ⟨h2,_⟩
      · obtain ⟨be',Pd',q',h1,r⟩:=hx
        exact ⟨he,⟨be',Pd',q',h1,r⟩,_,_,_,_,_,_,_,h1⟩
      · exact absurd (show (0:Int)=2 from h2) (by decide))).mono ?_
     rintro e w' ⟨rfl,w1,⟨be',Pd',q',hm1,hbe,hpd,hx1⟩,rfl⟩
     obtain ⟨hm',hsz,hext⟩:=hm1.cleared pg pv
     have hE:Ext (fun k=>Pd k\/k=b) w _:=hx1.trans (P2:=fun k=>k=b) hext fun k _ e=>.inr e
     refine .inl ⟨X.is,(uniN [] pk).length,s',.inr (.inl rfl),hfu,rfl,_,sinv_of hm' (hpl.great hw g3 g1 g2 pv) hl hE.size ?_,(hE.sub fun k e=>e.elim (fun e=>ho k (.inl e)) fun e=>ho k (.inr (.inl e))).chg⟩
     intro k hk
     rcases hk with hk|rfl|rfl|rfl| ⟨x,hx,hg⟩| ⟨x,hx,_⟩
     · exact (hpd k hk).imp (fun e=>ho k (.inl e)) id
     · exact .inl (ho _ (.inr (.inl rfl)))
     · exact .inr hbe.1
     · exact .inr hx1.size
     · rw[uni_nil] at hx
       unfold pickG at hg
       rw[if_pos hx] at hg
       exact .inl (ho k (.inr (.inr (.inr (.inr (.inr ⟨x,hx,hg⟩))))))
     · exact absurd hx List.not_mem_nil
   · simp only at h0
     subst h0
     obtain ⟨g1,g2⟩:=s2 rfl
     refine (sEnd_dead (Q:=fun w1=>∃ Pd',w1.heap[b]? =some deadRow/\Dk w1 Pd' d s'/\(∀ k,Pd' k->Pd k\/w.heap.size<=k)/\Ext (fun k=>Pd k\/k=b) w w1) hm (KJ.mono fun e w1 hq=>by
      rcases hq with ⟨h2,_⟩| ⟨_,he,hx⟩
      · exact absurd (show (2:Int)=0 from h2) (by decide)
      · exact ⟨he,hx⟩)).mono ?_
     rintro e w' ⟨rfl,Pd',hb,hdk,hpd,hx⟩
     obtain ⟨k1,k2,k3⟩:=g2
     refine .inr ⟨g1,rfl,grP P w w',s',⟨b,Pd',rfl,hb,hdk,fun k hk=>?_,fun k hk=>hk.elim (fun h=>Nat.lt_of_lt_of_le (hl k h) hx.size) fun h=>h.2⟩,(hx.sub fun k e=>e.elim (fun e=>ho k (.inl e)) fun e=>ho k (.inr (.inl e))).chg,k1,k2,fun kp=>?_⟩
     · rcases hk with hk|rfl
       · exact (hpd k hk).imp (fun e=>ho k (.inl e)) fun e=>⟨e,hdk.lt k hk⟩
       · exact .inl (ho _ (.inr (.inl rfl)))
     · obtain ⟨G,hG,hJ⟩:=k3 kp
       refine ⟨G,?_,hJ⟩
       simp only[List.mem_cons,List.not_mem_nil,or_false] at hG |-
       rcases hG with e|e
       · exact .inl e
       · exact .inr (.inl e)
end
theorem open_mem {W:World}{P:Nat->Prop}{d:Value}{s:DS}{x:Int} (hd:Dk W P d s) (hx:0<=x/\x<4294967296) (eg:Int->Value) (ev:Int->List Int):
 let w':=((W.alloc (.map #[] 0)).alloc (.map #[] 0)).alloc (.cells #[d,.int .u32 x,.map (some W.heap.size),.map (some (W.heap.size+1)),.bool false,.bool false] 86)
 SMem w' P (W.heap.size+1+1) W.heap.size (W.heap.size+1) d x [] eg ev [] eg ev false s/\Below W.heap.size W w'/\w'.heap.size=W.heap.size+3:=by
 intro w'
 obtain ⟨w1,hw1⟩:∃ w1,w1=W.alloc (.map #[] 0):=⟨_,rfl⟩
 obtain ⟨w2,hw2⟩:∃ w2,w2=w1.alloc (.map #[] 0):=⟨_,rfl⟩
 have hs1:w1.heap.size=W.heap.size+1:=by rw[hw1];simp
 have hs2:w2.heap.size=W.heap.size+1+1:=by rw[hw2];simp[hs1]
 have hw':w'=w2.alloc (.cells #[d,.int .u32 x,.map (some W.heap.size),.map (some (W.heap.size+1)),.bool false,.bool false] 86):=by rw[hw2,hw1]
 have b1:Below W.heap.size W w1:=by rw[hw1];exact below_box W _
 have b2:Below w1.heap.size w1 w2:=by rw[hw2];exact below_box w1 _
 have b3:Below w2.heap.size w2 w':=by rw[hw'];exact below_box w2 _
 have hm1:Mp w1 W.heap.size [] eg:=by rw[hw1];exact Mp.made W eg
 have hm2:Mp w2 w1.heap.size [] eg:=by rw[hw2];exact Mp.made w1 eg
 have hb:Below W.heap.size W w':=b1.trans ((b2.trans (b3.mono b2.size)).mono b1.size)
 have hr:w'.heap[W.heap.size+1+1]? =some (.cells #[d,.int .u32 x,.map (some W.heap.size),.map (some (W.heap.size+1)),.bool false,.bool false] 86 (0,0)):=by
  rw[<- hs2,hw'];exact heap_alloc_new w2 _
 refine ⟨⟨hr,hd.below hb,hx,(hm1.keep (b2.block _ (by rw[hs1];omega))).keep (b3.block _ (by rw[hs2];omega)),?_,by omega,fun x hx=>absurd hx List.not_mem_nil,fun x hx=>absurd hx List.not_mem_nil⟩,hb,by rw[hw'];simp[hs2]⟩
 rw[<- hs1]
 exact hm2.keep (b3.block _ (by rw[hs2,hs1];omega))
theorem sOpen_of {w:World}{P:Nat->Prop}{d:Value}{ds:DS}{n:Nat}{G:List (List Int)} (h:Dk w P d ds) (h64:64<=n) (h768:n<=768) (hU:ds.U=[]) (hd:ds.dn=false) (hJ:Jst n ds.F G):Calls Tryz.prog 56 #[d] w fun e w'=>
 (∃ p ds' P',e=.returned (.tuple #[p,.int .i64 0])/\ds'.fu=ds.fu/\SInv w' P' d p ⟨G,G,[],[],false,0,ds'⟩/\Chg P P' w w')\/
   (ds.fu=true/\e=.returned (.tuple #[.pointer none,.int .i64 2])/\∃ ds' P',Dk w' P' d ds'/\Chg P P' w w'/\DeadOk n ds' [G]):=by
 have KR:=Lib.hid (recover_any h h64 hU hd hJ)
 have hlt:=fun k hk=>h.lt k hk
 have HL:=Lib.hid hlt
 have HG:Hid (G.length=n):=Lib.hid hJ.2.1
 have H64:=Lib.hid (And.intro h64 h768)
 have hmm:=@run_makeMap Tryz.prog
 obtain ⟨bd,rfl⟩:=h.ptr
 clear h h64 h768 hU hd hJ hlt
 go_enter Tryz.func56,Tryz.ntmps56
 go_upto_region 2 with (go_at_call 99;(with_reducible refine KR.out.mono ?_);rintro e w1 ⟨x,r,s',P1,rfl,hd1,hc1,hu1,hf1,hr1,hcr,h0,hf0,hx,hfu⟩
                        have HD:=Lib.hid hd1
                        have HC:=Lib.hid hc1
                        have HCR:=Lib.hid (And.intro hu1 (And.intro hf1 hcr))
                        have H0:=Lib.hid h0
                        have HF0:=Lib.hid hf0
                        have HX:=Lib.hid hx
                        have HFU:=Lib.hid hfu
                        have HR:=Lib.hid hr1
                        clear hd1 hc1 hu1 hf1 hcr h0 hf0 hx hfu hr1)
 rcases HR.out with e0|e0
 · subst e0
   go_wp2
   go_ret2
   obtain ⟨g1,g2,g3⟩:=H0.out (by first|rfl|trivial)
   obtain ⟨hm,hb,hsz⟩:=open_mem HD.out HX.out (fun _=>undef) (fun _=>[])
   have hE:Ext P w _:=(Ext.of_chg HC.out fun k hk=>hk).trans (P2:=P) (Ext.of_below hb) fun k _ e=>e
   refine .inl ⟨_,rfl,s',HFU.out,_,sinv_of (X:=⟨G,G,[],[],false,0,s'⟩) (P:=P) hm ⟨⟨by show Lst G.length s' G;rw[HG.out];exact g3,g1,by rw[g2];exact Nat.zero_le _,fun e=>Bool.noConfusion (show false=true from e),Nat.zero_le _⟩,by show 64<=G.length/\G.length<=768;rw[HG.out];exact H64.out,g2,fun x hx=>absurd hx List.not_mem_nil,fun x hx=>absurd hx List.not_mem_nil,Nat.zero_le _,Nat.zero_le _,rfl,fun i _ _=>(if_neg List.not_mem_nil).symm,fun _=>rfl,fun e=>Bool.noConfusion (show false=true from e)⟩ HL.out hE.size ?_,hE.chg⟩
   intro k hk
   have hs:=HC.out.size
   rcases hk with hk|rfl|rfl|rfl| ⟨x,hx,_⟩| ⟨x,hx,_⟩
   · exact chg_new HC.out hk
   · exact .inr (by omega)
   · exact .inr (by omega)
   · exact .inr (by omega)
   · exact absurd hx List.not_mem_nil
   · exact absurd hx List.not_mem_nil
 · subst e0
   go_wp2
   go_ret2
   refine .inr ⟨?_,rfl,s',P1,HD.out,HC.out,HCR.out.1,HCR.out.2.1,fun kp=>⟨G,by simp,HCR.out.2.2 kp⟩⟩
   cases hf:ds.fu
   · exact absurd (HF0.out hf) (by decide)
   · rfl
theorem landed:Sto SInv SDead where
 plain h:=by obtain ⟨_,_,_,_,_,_,_,_,_,_,_,_,_,hpl,_⟩:=h;exact hpl.ok
 ptr h:=by obtain ⟨b,_,_,_,_,_,_,_,_,_,_,hp,_⟩:=h;exact ⟨b,hp⟩
 lt h:=by obtain ⟨_,_,_,_,_,_,_,_,_,_,_,_,_,_,_,hl⟩:=h;exact hl
 keep h hs hk:=h.keep hs hk
 disk h:=by obtain ⟨_,_,_,Pd,_,_,_,_,_,_,_,_,hm,_,ho,_⟩:=h;exact ⟨Pd,fun k hk=>ho k (.inl hk),hm.dk⟩
 deadLt h:=by obtain ⟨_,_,_,_,_,_,hl⟩:=h;exact hl
 deadKeep h hs hk:=h.keep hs hk
 deadDisk h:=by obtain ⟨_,Pd,_,_,hd,ho,_⟩:=h;exact ⟨Pd,fun k hk=>ho k (.inl hk),hd⟩
 begin h:=sBegin_of h
 put h hv hn hj:=sPut_of h hv hn hj
 getOut h _ ho:=sGet_out h ho
 getIn h hn:=sGet_in h hn
 endNo h hw:=sEndNo_of h hw _
 endUndo h hw:=sEndUndo_of h hw
 endKeep h hw:=sEndKeep_of h hw
 opens h h64 h768 hU hd hJ:=sOpen_of h h64 h768 hU hd hJ
end Go.Proofs.YtaakepjgpnaecaaGreat
