/- What the law rests on: part 25. -/
import Derived.Test.YtaakepjgpnaecaaGreatKP24
set_option linter.unusedVariables false
namespace Go.Proofs.YtaakepjgpnaecaaGreat
set_option maxRecDepth 100000
open Go.RowKit BM
structure Fsd (w0 w:World) (P:Nat->Prop) (d p:Value) (X:XSt) (S:List Int) (N:List (List Int)) (O:List (Int × Int)) (kk:Nat) (F:Nat->List Int) (bf:Nat):Prop where
 inv:SInv w P d p X
 wi:X.wi=false
 fu:X.ds.fu=false
 pl:Pl noEx X.is S N O kk F
 st:Stil S kk
 fs:FsAt w bf p
 nb:¬ P bf
 bN:w0.heap.size<=bf
 pN:∀ x,P x->w0.heap.size<=x
 be:Below w0.heap.size w0 w
structure Fsm (w0 w:World) (P:Nat->Prop) (d p:Value) (X:XSt) (S:List Int) (N:List (List Int)) (O:List (Int × Int)) (kk:Nat) (F:Nat->List Int) (bf:Nat):Prop where
 inv:SInv w P d p X
 wi:X.wi=true
 fu:X.ds.fu=false
 pl:Pl noEx X.is S N O kk F
 st:Stil S kk
 fs:FsAt w bf p
 nb:¬ P bf
 bN:w0.heap.size<=bf
 pN:∀ x,P x->w0.heap.size<=x
 sz:w0.heap.size<=w.heap.size
 be:Below w0.heap.size w0 w
section
variable {w0 w:World}{P:Nat->Prop}{d p:Value}{X:XSt}{S:List Int}{N:List (List Int)}{O:List (Int × Int)}{kk:Nat}{F:Nat->List Int}{bf:Nat}
theorem Fsd.low (h:Fsd w0 w P d p X S N O kk F bf) {w':World} (hb:Below w.heap.size w w'):Fsd w0 w' P d p X S N O kk F bf:=
 { h with inv:=h.inv.low hb,fs:=h.fs.low hb,be:=h.be.trans (hb.mono h.be.size) }
theorem Fsd.far (h:Fsd w0 w P d p X S N O kk F bf) {M M':Nat->Prop}{w':World} (hc:Chg M M' w w') (hM:∀ x,M x->w0.heap.size<=x) (hP:∀ x,P x->¬ M x) (hf:¬ M bf):Fsd w0 w' P d p X S N O kk F bf:=
 { h with inv:=h.inv.keep hc.size fun x hx=>(hc.keep x (h.inv.lt x hx) (hP x hx)).1,fs:=((hc.keep bf (Array.getElem?_eq_some_iff.1 h.fs).1 hf).1).trans h.fs,
          be:=h.be.trans (hc.below fun x hx=>⟨Nat.lt_of_lt_of_le hx h.be.size,fun hm=>by have:=hM x hm;omega⟩) }
theorem Fsm.far (h:Fsm w0 w P d p X S N O kk F bf) {M M':Nat->Prop}{w':World} (hc:Chg M M' w w') (hM:∀ x,M x->w0.heap.size<=x) (hP:∀ x,P x->¬ M x) (hf:¬ M bf):Fsm w0 w' P d p X S N O kk F bf:=
 { h with inv:=h.inv.keep hc.size fun x hx=>(hc.keep x (h.inv.lt x hx) (hP x hx)).1,fs:=((hc.keep bf (Array.getElem?_eq_some_iff.1 h.fs).1 hf).1).trans h.fs,sz:=Nat.le_trans h.sz hc.size,
          be:=h.be.trans (hc.below fun x hx=>⟨Nat.lt_of_lt_of_le hx h.sz,fun hm=>by have:=hM x hm;omega⟩) }
theorem Fmd.farM (h:Fmd w P d p X S N O kk F bf) {M M':Nat->Prop}{w':World} (hc:Chg M M' w w') (hP:∀ x,P x->¬ M x) (hf:¬ M bf):Fmd w' P d p X S N O kk F bf:=
 { h with inv:=h.inv.keep hc.size fun x hx=>(hc.keep x (h.inv.lt x hx) (hP x hx)).1,fs:=((hc.keep bf (Array.getElem?_eq_some_iff.1 h.fs).1 hf).1).trans h.fs }
theorem Fsd.begin (h:Fsd w0 w P d p X S N O kk F bf):Calls Tryz.prog 14 #[p] w fun e w'=>e=.returned (.int .i64 0)/\∃ P',Fsm w0 w' P' d p (callX X) S N O kk F bf/\Fmd w' P' d p (callX X) S N O kk F bf/\Chg P P' w w':=by
 refine (landed.begin h.inv).mono fun e w' ⟨he,P',hi,hc⟩=>?_
 have e1:xBegin X=(0,callX X):=by unfold xBegin;rw[if_neg (by rw[h.wi];decide)];rfl
 rw[e1] at he hi
 obtain ⟨hf,hn⟩:=h.fs.chg hc h.nb
 obtain ⟨hb,hp⟩:=chg_base h.be h.pN hc
 exact ⟨he,P',⟨hi,rfl,h.fu,h.pl,h.st,hf,hn,h.bN,hp,hb.size,hb⟩,⟨hi,rfl,h.pl,h.st,hf,hn⟩,hc⟩
theorem Fsm.next (h:Fsm w0 w P d p X S N O kk F bf) {w':World}{P':Nat->Prop}{X':XSt} (hi:SInv w' P' d p X') (hw:X'.wi=true) (ho:Onw X X') (hc:Chg P P' w w'):Fsm w0 w' P' d p X' S N O kk F bf:=by
 obtain ⟨hf,hn⟩:=h.fs.chg hc h.nb
 obtain ⟨hb,hp⟩:=chg_base h.be h.pN hc
 exact ⟨hi,hw,by rw[ho.2];exact h.fu,by rw[ho.1];exact h.pl,h.st,hf,hn,h.bN,hp,hb.size,hb⟩
theorem Fsm.keep (h:Fsm w0 w P d p X S N O kk F bf) {N2:List (List Int)}{O2:List (Int × Int)}{F2:Nat->List Int} (hm:Fmd w P d p X S N2 O2 kk F2 bf):
 Calls Tryz.prog 19 #[p,.bool true] w fun e w'=>e=.returned (.int .i64 0)/\∃ P' X',Fsd w0 w' P' d p X' S N2 O2 kk F2 bf/\X'.is=X.call/\Chg P P' w w':=by
 refine (landed.endKeep h.inv h.wi).mono fun e w' he=>?_
 rcases he with ⟨B,dt,ds',_,hfu,he,P',hi,hc⟩| ⟨hf,_⟩
 · obtain ⟨hf,hn⟩:=h.fs.chg hc h.nb
   obtain ⟨hb,hp⟩:=chg_base h.be h.pN hc
   exact ⟨he,P',_,⟨hi,rfl,by show ds'.fu=false;rw[hfu];exact h.fu,hm.pl,h.st,hf,hn,h.bN,hp,hb⟩,rfl,hc⟩
 · rw[h.fu] at hf;cases hf
theorem Fsm.undo (h:Fsm w0 w P d p X S N O kk F bf):Calls Tryz.prog 19 #[p,.bool false] w fun e w'=>e=.returned (.int .i64 0)/\∃ P' X',Fsd w0 w' P' d p X' S N O kk F bf/\X'.is=X.is/\Chg P P' w w':=by
 refine (landed.endUndo h.inv h.wi).mono fun e w' ⟨he,P',hi,hc⟩=>?_
 obtain ⟨hf,hn⟩:=h.fs.chg hc h.nb
 obtain ⟨hb,hp⟩:=chg_base h.be h.pN hc
 exact ⟨he,P',_,⟨hi,rfl,h.fu,h.pl,h.st,hf,hn,h.bN,hp,hb⟩,rfl,hc⟩
theorem Fsd.rd (h:Fsd w0 w P d p X S N O kk F bf):Frd w P d p X S N O kk F bf:=by
 have hc:X.cur=X.is:=by unfold XSt.cur;rw[h.wi];rfl
 exact ⟨h.inv,h.fs,by rw[hc];exact h.pl.tab,by rw[hc];exact h.pl.fi,h.pl.ok.k12,by rw[hc];exact h.pl.has.len⟩
theorem Pl.make (h:Pl noEx X.call S N O kk F) {n:Nat} (h1:1<=n) (h48:n<48) (hF:F n=List.replicate 128 0) {k:Int} (hk:1<=k/\k<=3):Pl noEx (putI X S N n (kindI k)).call S (N.set n (kindI k)) O kk F:=by
 have hz:∀ i,i<139->locX (kindI k) (List.replicate 128 0) i=0:=fun i hi=>by
  unfold locX num
  split
  · next h10=>
    have:∀ j,j<10->(kindI k).getD (3+j) 0=0:=fun j hj=>by
     have hj2:j=0\/j=1\/j=2\/j=3\/j=4\/j=5\/j=6\/j=7\/j=8\/j=9:=by omega
     rcases hj2 with rfl|rfl|rfl|rfl|rfl|rfl|rfl|rfl|rfl|rfl <;> rfl
    exact this i h10
  · split
    · rfl
    · rw[List.getD_eq_getElem?_getD,List.getElem?_replicate];split <;> rfl
 exact (h.node h1 h48 (y:=kindI k) rfl (kindI_frm hk) (fun a b e=>e.elim) (fun _=>hF) (fun e=>absurd rfl e) (fun i hi hne=>by rw[hF] at hne;exact absurd (hz i hi) hne)).1
end
def N14:Nat->List (List Int)
 |0=>newN
 |c+1=>(N14 c).set (2+c) (kindI 1)
def F14:Nat->List Int:=fun _=>List.replicate 128 0
theorem n14_len:∀ c,(N14 c).length=48
 |0=>rfl
 |c+1=>by rw[N14,List.length_set];exact n14_len c
theorem n14_get:∀ c m,c<=4->(N14 c).getD m []=if 2<=m/\m<2+c then kindI 1 else newN.getD m []
 |0,m,_=>by rw[if_neg (by omega)];rfl
 |c+1,m,h=>by
  rw[N14,getD_n (by rw[n14_len];omega),n14_get c m (by omega)]
  by_cases e:m=2+c
  · rw[if_pos e,if_pos (by omega)]
  · rw[if_neg e]
    by_cases c2:2<=m/\m<2+c
    · rw[if_pos c2,if_pos (by omega)]
    · rw[if_neg c2,if_neg (by omega)]
theorem newN_kind:∀ m,m<48->(newN.getD m []).getD 0 0=if m=1 then 2 else 0:=by decide
theorem newN_loc:∀ m,m<48->∀ j,j<11->(newN.getD m []).getD (3+j) 0=0:=by decide
theorem n14_kind {c m:Nat} (hc:c<=4) (hm:m<48):kindN (N14 c) m=if m=1 then 2 else if 2<=m/\m<2+c then 1 else 0:=by
 unfold kindN
 rw[n14_get c m hc]
 by_cases h:2<=m/\m<2+c
 · rw[if_pos h,if_neg (by omega),if_pos h];rfl
 · rw[if_neg h,newN_kind m hm,if_neg h]
theorem n14_free {c:Nat} (hc:c<4):FreeAt (N14 c) (2+c):=by
 refine ⟨by omega,by omega,by rw[n14_kind (by omega) (by omega),if_neg (by omega),if_neg (by omega)],fun m h1 h2=>?_⟩
 rw[n14_kind (by omega) (by omega)]
 split
 · decide
 · rw[if_pos (by omega)];decide
theorem new_fils {kk:Nat} (h1:1<=kk) (G:List (List Int)):Fils noEx G (newS kk) newN (newO kk) kk F14:=by
 have hz:∀ n i,n<48->i<139->locX (newN.getD n []) (F14 n) i=0:=fun n i hn hi=>by
  unfold locX num
  split
  · next h10=>exact newN_loc n hn i (by omega)
  · split
    · exact newN_loc n hn 10 (by decide)
    · show (List.replicate 128 (0:Int)).getD (i-10) 0=0
      rw[List.getD_eq_getElem?_getD,List.getElem?_replicate];split <;> rfl
 refine ⟨fun n=>⟨rfl,(by decide:locS (List.replicate 128 0)=true)⟩,fun _ _ _ _=>rfl,fun n _ hn hm=>absurd (newN_loc n hn 10 (by decide)) hm,fun n i _ hn hi _ hl=>absurd (hz n i hn hi) hl,fun t ht=>?_⟩
 have e:tabAt (newS kk) t=43+t:=by
  have hi2:t=0\/t=1\/t=2\/t=3\/t=4\/t=5:=by omega
  rcases hi2 with rfl|rfl|rfl|rfl|rfl|rfl <;> rfl
 rw[e]
 unfold newO
 rw[tabN_getD _ _ _ (by omega)]
 unfold tabJ
 rw[if_neg (by rw[(fix_tab (j:=43+t)).2 (by omega) (by omega)];decide),if_pos (by omega)]
 exact Prod.ext rfl (by simp only;omega)
theorem new_stil {kk:Nat} (h1:1<=kk) (h2:kk<=12):Stil (newS kk) kk:=by
 refine ⟨fun i=>?_,rfl,?_⟩
 · by_cases hi:i<12
   · have hi2:i=0\/i=1\/i=2\/i=3\/i=4\/i=5\/i=6\/i=7\/i=8\/i=9\/i=10\/i=11:=by omega
     have e0:num (newS kk) 0=64*(kk:Int):=rfl
     rcases hi2 with rfl|rfl|rfl|rfl|rfl|rfl|rfl|rfl|rfl|rfl|rfl|rfl
     · rw[e0];omega
     all_goals first
      |exact (by decide:(0:Int)<=9223372036854775807)
      |exact (by decide:(43:Int)<=9223372036854775807)
      |exact (by decide:(44:Int)<=9223372036854775807)
      |exact (by decide:(45:Int)<=9223372036854775807)
      |exact (by decide:(46:Int)<=9223372036854775807)
      |exact (by decide:(47:Int)<=9223372036854775807)
      |exact (by decide:(48:Int)<=9223372036854775807)
   · unfold num
     rw[List.getD_eq_getElem?_getD,List.getElem?_eq_none (by show 12<=i;omega)];decide
 · unfold limS
   rw[if_pos (newS_frm h1 h2),if_neg (by show ¬ (0:Int)=2;decide)];rfl
section
variable {kk:Nat}
set_option maxHeartbeats 1000000 in
theorem made_of (h1:1<=kk) (h2:kk<=12) (w0:World) {w:World} (hb:Below w0.heap.size w0 w):
 Calls Tryz.prog 7 #[.int .i64 (64*(kk:Int))] w fun e w'=>∃ bf b P d X,e=.returned (.pointer (some ⟨bf,0,none⟩))/\Fsd w0 w' P d (.pointer (some ⟨b,0,none⟩)) X (newS kk) (N14 4) (newO kk) kk F14 bf:=by
 have KS:=Lib.hid (start13 h1 h2 w0 hb)
 have HB:Hid (∀ (V:World) (P:Nat->Prop) (d:Value) (b bf:Nat) (X:XSt),Tsd w0 V P d (.pointer (some ⟨b,0,none⟩)) X (newS kk) newN (newO kk) kk bf->Fsd w0 V P d (.pointer (some ⟨b,0,none⟩)) X (newS kk) newN (newO kk) kk F14 bf):=Lib.hid fun V P d b bf X h=>
  ⟨h.inv,h.wi,h.fu,⟨h.has,h.ok,h.tab,new_fils h1 _⟩,new_stil h1 h2,h.fs,h.nb,h.bN,h.pN,h.be⟩
 have HM:Hid (∀ (V:World) (P:Nat->Prop) (d:Value) (b bf c:Nat) (X:XSt),c<4->Fsm w0 V P d (.pointer (some ⟨b,0,none⟩)) X (newS kk) newN (newO kk) kk F14 bf->Fmd V P d (.pointer (some ⟨b,0,none⟩)) X (newS kk) (N14 c) (newO kk) kk F14 bf->X.put.length<=c->Calls Tryz.prog 23 #[.pointer (some ⟨bf,0,none⟩),.int .i64 1] V fun e w'=>e=.returned (.tuple #[.int .i64 ((2+c:Nat):Int),.int .i64 0])/\
  Hid (∃ P' X',Fsm w0 w' P' d (.pointer (some ⟨b,0,none⟩)) X' (newS kk) newN (newO kk) kk F14 bf/\Fmd w' P' d (.pointer (some ⟨b,0,none⟩)) X' (newS kk) (N14 (c+1)) (newO kk) kk F14 bf/\X'.put.length<=c+1)):=Lib.hid fun V P d b bf c X hc hs hm hp=>by
  refine (fsMake_yes hm.inv hm.wi (by omega) hm.fs hm.pl.tab (n14_free hc) (k:=1) (by decide) (Below.refl _ _)).mono ?_
  rintro e w' ⟨he,P',hi,hg⟩
  obtain ⟨hfs,hnb⟩:=hm.fs.chg hg hm.nb
  exact ⟨he,P',_,hs.next hi hm.wi ⟨rfl,rfl⟩ hg,⟨hi,hm.wi,hm.pl.make (by omega) (by omega) rfl (by decide),hm.st,hfs,hnb⟩,by have:=addS_le X.put ((tabAt (newS kk) ((2+c) / 8):Nat):Int);show (addS X.put _).length<=c+1;omega⟩
 clear h1 h2
 go_enter Tryz.func7,Tryz.ntmps7
 go_wp2_with (first
  |(go_at_call 22;refine KS.out.mono ?_;rintro e w1 ⟨b,rfl,hb1,KN⟩)
  |(go_at_call 21;refine KN.mono ?_;rintro e w2 ⟨bf,P2,d2,X2,rfl,hsd,_⟩;have hsd2:=HB.out _ _ _ _ _ _ hsd;have c2:=hsd2.fs.cell)
  |(go_at_call 14;refine hsd2.begin.mono ?_;rintro e w3 ⟨rfl,P3,hs3,hm3,_⟩))
 have H0:Hid (∃ P X,Fsm w0 w3 P d2 (.pointer (some ⟨b,0,none⟩)) X (newS kk) newN (newO kk) kk F14 bf/\Fmd w3 P d2 (.pointer (some ⟨b,0,none⟩)) X (newS kk) (N14 0) (newO kk) kk F14 bf/\X.put.length<=0):=Lib.hid ⟨P3,_,hs3,hm3,Nat.le_refl _⟩
 clear hsd hsd2 c2 hs3 hm3 KN hb1
 go_loopw [20] (fun i wr=>∃ c:Nat,c<=4/\i=.int .i64 c/\Hid (∃ P X,Fsm w0 wr P d2 (.pointer (some ⟨b,0,none⟩)) X (newS kk) newN (newO kk) kk F14 bf/\Fmd wr P d2 (.pointer (some ⟨b,0,none⟩)) X (newS kk) (N14 c) (newO kk) kk F14 bf/\X.put.length<=c)) (fun i _=>4-(intOf i).toNat)
 case atStart=>exact ⟨0,by omega,rfl,H0⟩
 case round=>
  obtain ⟨c,hc,rfl,HS⟩:=hrel
  clear H0
  by_cases hlt:c<4
  · obtain ⟨P,X,hs,hm,hp⟩:=HS.out
    have KM:=Lib.hid (HM.out _ _ _ _ _ _ _ hlt hs hm hp)
    have ec:(c:Int)<4:=by omega
    clear hs hm hp HS
    go_wp2_with (go_at_call 23;refine KM.out.mono ?_;rintro e w4 ⟨rfl,HS4⟩)
    go_roundw
    case rel=>exact ⟨c+1,by omega,by go_num,HS4⟩
    case measure=>simp[intOf];omega
  · obtain rfl:c=4:=by omega
    obtain ⟨P,X,hs,hm,hp⟩:=HS.out
    have cf:=hs.fs.cell
    have KE:=Lib.hid (hs.keep hm)
    clear hs hm hp HS
    go_wp2_with (go_at_call 19;refine KE.out.mono ?_;rintro e w5 ⟨rfl,P5,X5,hf5,_,_⟩)
    go_ret
    exact ⟨bf,b,P5,d2,X5,rfl,hf5⟩
end
theorem kindI_loc (k:Int) {i:Nat} (hi:i<139):locX (kindI k) (List.replicate 128 0) i=0:=by
 unfold locX num
 split
 · next h10=>
   have:∀ j,j<10->(kindI k).getD (3+j) 0=0:=fun j hj=>by
    have hj2:j=0\/j=1\/j=2\/j=3\/j=4\/j=5\/j=6\/j=7\/j=8\/j=9:=by omega
    rcases hj2 with rfl|rfl|rfl|rfl|rfl|rfl|rfl|rfl|rfl|rfl <;> rfl
   exact this i h10
 · split
   · rfl
   · rw[List.getD_eq_getElem?_getD,List.getElem?_replicate];split <;> rfl
theorem n14_loc {c m:Nat} (hc:c<=4) (hm:m<48) {i:Nat} (hi:i<139):locX ((N14 c).getD m []) (F14 m) i=0:=by
 rw[n14_get c m hc]
 split
 · exact kindI_loc 1 hi
 · unfold locX num
   split
   · next h10=>exact newN_loc m hm i (by omega)
   · split
     · exact newN_loc m hm 10 (by decide)
     · show (List.replicate 128 (0:Int)).getD (i-10) 0=0
       rw[List.getD_eq_getElem?_getD,List.getElem?_replicate];split <;> rfl
def baseQ (S:List Int) (kk n:Nat) (mp:Int):List Int:=(List.range kk).flatMap (fun g=>[(dscN g:Int),(dscN g:Int)+1]) ++ [((tabAt S (n / 8):Nat):Int),mp]
theorem baseQ_len (S:List Int) (kk n:Nat) (mp:Int):(baseQ S kk n mp).length=2*kk+2:=by
 unfold baseQ
 rw[List.length_append]
 have:∀ l:List Nat,(l.flatMap fun g=>[(dscN g:Int),(dscN g:Int)+1]).length=2*l.length:=fun l=>by
  induction l with
  |nil=>rfl
  |cons a l ih=>rw[List.flatMap_cons,List.length_append,ih];simp;omega
 rw[this,List.length_range];rfl
theorem baseQ_ok (S:List Int) (kk n:Nat) (mp:Int):Base (baseQ S kk n mp) S kk n mp:=by
 refine ⟨fun g hg=>?_,List.mem_append_right _ (by simp),fun _=>List.mem_append_right _ (by simp)⟩
 have:∀ a∈[(dscN g:Int),(dscN g:Int)+1],a∈baseQ S kk n mp:=fun a ha=>List.mem_append_left _ (List.mem_flatMap.2 ⟨g,List.mem_range.2 hg,ha⟩)
 exact ⟨this _ (by simp),this _ (by simp)⟩
theorem put_none (X:XSt) (Q:List Int):PutS (callX X) Q:=⟨List.nodup_nil,fun a ha=>absurd ha List.not_mem_nil⟩
theorem awake14_any (w:World):Calls Tryz.prog 6 #[] w fun e w'=>e=.returned (.bool true)/\Below w.heap.size w w':=by
 have KM:=Lib.hid (made_of (kk:=1) (by decide) (by decide) w (Below.refl _ w))
 rw[show (64*((1:Nat):Int))=64 from rfl] at KM
 have KF:Hid (∀ (V:World) (P:Nat->Prop) (d p:Value) (X:XSt) (bf:Nat),Fsm w V P d p (callX X) (newS 1) (N14 4) (newO 1) 1 F14 bf->Fmd V P d p (callX X) (newS 1) (N14 4) (newO 1) 1 F14 bf->Calls Tryz.prog 15 #[.pointer (some ⟨bf,0,none⟩),.int .i64 2,.int .i64 0] V fun e w'=>∃ v:Int,e=.returned (.tuple #[.int .i64 v,.int .i64 0])/\0<v/\Below w.heap.size w w'):=Lib.hid fun V P d p X bf hs hm=>by
  have:=fmMap_new (n:=2) (i:=0) (Q:=baseQ (newS 1) 1 2 (num ((N14 4).getD 2 []) 13)) hm (by decide) (by decide) (by rw[n14_kind (by decide) (by decide)];decide) (by decide) (n14_loc (by decide) (by decide) (by decide)) (put_none _ _) (by rw[baseQ_len];decide) (baseQ_ok _ _ _ _) (by
   rw[cnt_new 1 (by decide) (by decide)]
   unfold needM
   rw[if_neg (by omega)];decide)
  refine this.mono ?_
  rintro e w' ⟨v,P',X',N',O',F',he,hm',hr,hg⟩
  exact ⟨v,he,hr.v0,(hs.next hm'.inv hm'.wi hr.on hg).be⟩
 go_enter Tryz.func6,Tryz.ntmps6
 go_wp2_with (first
  |(go_at_call 7;refine KM.out.mono ?_;rintro e w1 ⟨bf,b,P,d,X,rfl,hf⟩;have c0:=hf.fs.cell;have KB:=Lib.hid hf.begin)
  |(go_at_call 14;refine KB.out.mono ?_;rintro e w2 ⟨rfl,P2,hs2,hm2,_⟩)
  |(go_at_call 15;refine (KF.out _ _ _ _ _ _ hs2 hm2).mono ?_;rintro e w3 ⟨v,rfl,hv,hb3⟩))
 go_ret
 exact ⟨by simp[hv],hb3⟩
section
variable {w:World}{P:Nat->Prop}{d p:Value}{X:XSt}{S:List Int}{N:List (List Int)}{kk:Nat}{F:Nat->List Int}{bf k:Nat}
end
end Go.Proofs.YtaakepjgpnaecaaGreat
namespace Go.Proofs.YtaakepjgpnaecaaGreat
set_option maxRecDepth 100000
open Go.RowKit Go.ChangeShapes Go.WideShapes
structure O13 where
 k:Int
 ino:Int
 kd:Int
 n:Int
 I:List Int
 S:List Int
 i:Int
 a:Int
instance:Inhabited O13:=⟨⟨0,0,0,0,[],[],0,0⟩⟩
section
variable {H:Type}{enc:TypeId × Value->H}{W:World}{base:Nat}{spare:Nat->Bool}{held:Bool}
theorem cut_more (cs:List Value) (a b c:Nat) (h:c=a+b):cs.drop a=(cs.drop a).take b ++ cs.drop c:=by
 rw[h,<- List.drop_drop,List.take_append_drop]
end
structure O14 where
 k:Int
 n:Int
 i:Int
 v:Int
instance:Inhabited O14:=⟨⟨0,0,0,0⟩⟩
structure O14.ok (o:O14):Prop where
 k:in64 o.k
 n:in64 o.n
 i:in64 o.i
 v:in64 o.v
def O14.cells (o:O14):List Value:=[.int .i64 o.k,.int .i64 o.n,.int .i64 o.i,.int .i64 o.v]
def OpsV (W:World) (v:Value) (S:List O14):Prop:=
 (∃ a c,v=.slice a 0 c/\S=[])\/∃ b off cap,v=.slice (some ⟨b,off,none⟩) S.length cap/\∀ i,i<S.length->b<W.heap.size/\W.rangeAt b (off+i*4) (S.getD i default).cells/\(S.getD i default).ok
theorem op14Cells:Tryz.prog.cellsOf 45=4:=by kernel_rfl
section
variable {H:Type}{enc:TypeId × Value->H}{W:World}{base:Nat}{spare:Nat->Bool}{held:Bool}
theorem op14_cells {cs:List Value}{m:Nat}{y:DataW H × List MemPlace} (hl:cs.length=4) (ht:DataW.trod enc Tryz.prog W base (fun _=>true) held m 45 cs=some y):∃ o:O14,cs=o.cells/\o.ok:=by
 obtain ⟨xs,n,_,_,hlen,hxs,hf⟩:=DataW.trod_struct Tryz.underlying45 ht
 match xs,hxs with
 |[y0,y1,y2,y3],_=>
  have g0:DataW.trod enc Tryz.prog W base (fun _=>true) held n 3 (List.take (Tryz.prog.cellsOf 3) (List.drop 0 cs))=some y0:=hf 0 _ rfl
  have g1:DataW.trod enc Tryz.prog W base (fun _=>true) held n 3 (List.take (Tryz.prog.cellsOf 3) (List.drop 1 cs))=some y1:=hf 1 _ rfl
  have g2:DataW.trod enc Tryz.prog W base (fun _=>true) held n 3 (List.take (Tryz.prog.cellsOf 3) (List.drop 2 cs))=some y2:=hf 2 _ rfl
  have g3:DataW.trod enc Tryz.prog W base (fun _=>true) held n 3 (List.take (Tryz.prog.cellsOf 3) (List.drop 3 cs))=some y3:=hf 3 _ rfl
  rw[intCells12] at g0 g1 g2 g3
  obtain ⟨k,e0,_,wf0⟩:=DataW.trod_int Tryz.underlying3 g0
  obtain ⟨no,e1,_,wf1⟩:=DataW.trod_int Tryz.underlying3 g1
  obtain ⟨io,e2,_,wf2⟩:=DataW.trod_int Tryz.underlying3 g2
  obtain ⟨vo,e3,_,wf3⟩:=DataW.trod_int Tryz.underlying3 g3
  refine ⟨⟨k,no,io,vo⟩,?_,⟨bounds_i64 wf0,bounds_i64 wf1,bounds_i64 wf2,bounds_i64 wf3⟩⟩
  have h0:cs=cs.drop 0:=rfl
  rw[h0,cut_more cs 0 1 1 rfl,cut_more cs 1 1 2 rfl,cut_more cs 2 1 3 rfl,cut_more cs 3 1 4 rfl,e0,e1,e2,e3,List.drop_of_length_le (show cs.length<=4 by omega)]
  rfl
theorem ops14_open {v:Value}{d:DataW H}{p:List MemPlace}{r:Reach}{b0:Nat} (hv:Value.okWide Tryz.prog W r b0 22 v) (h:DataW.Trod enc Tryz.prog W base (fun _=>true) held 22 v d p):∃ S,OpsV W v S:=by
 obtain ⟨a0,len0,cap0,rfl⟩:=okWide_slice Tryz.underlying22 hv
 obtain ⟨fuel,hf⟩:=h
 rcases Go.Deep.open_slice Tryz.underlying22 hf with ⟨hcs,_⟩| ⟨a,len,cap,m,n,D,Pl,hcs,_,hl,hm,hmm,_,hi⟩
 · simp[Value.cells] at hcs
   obtain ⟨rfl,rfl,rfl⟩:=hcs
   exact ⟨[],.inl ⟨_,_,rfl,rfl⟩⟩
 · simp[Value.cells] at hcs
   obtain ⟨rfl,rfl,rfl⟩:=hcs
   have hlm:len0<=m:=by rw[hmm];split <;> omega
   have hex:∀ i,i<len0->∃ o:O14,(∀ j v,o.cells[j]? =some v->W.cell? (a.add (i*4+j))=some v)/\o.ok:=fun i hi2=>by
    obtain ⟨cs',hc,ht⟩:=hi i (by omega)
    rw[op14Cells] at hc
    obtain ⟨_,hcl,hat⟩:=World.cells?_some hc
    obtain ⟨o,rfl,ho⟩:=op14_cells hcl ht
    refine ⟨o,fun j v hj=>?_,ho⟩
    have hj2:j<4:=(List.getElem?_eq_some_iff.1 hj).1
    have:=hat j hj2
    rw[hj] at this
    rw[<- Go.Deep.add_add];exact this
   obtain ⟨f,hfn⟩:=Go.Deep.choose_lt hex
   by_cases h0:len0=0
   · exact ⟨[],.inl ⟨_,_,by rw[h0],rfl⟩⟩
   refine ⟨(List.range len0).map f,.inr ?_⟩
   obtain ⟨b,off,spot⟩:=a
   have hc0:∀ o:O14,o.cells[0]? =some (.int .i64 o.k):=fun o=>rfl
   have hsp:spot=none:=by
    have z0:=(hfn 0 (by omega)).1 0 _ (hc0 _)
    simpa [Addr.add] using World.cell?_spot z0
   subst hsp
   refine ⟨b,off,cap0,by simp,fun i hi2=>?_⟩
   have hi3:i<len0:=by simpa using hi2
   have hget:((List.range len0).map f).getD i default=f i:=by simp[List.getD_eq_getElem?_getD,hi3]
   rw[hget]
   obtain ⟨hr,ho⟩:=hfn i hi3
   have hr2:W.rangeAt b (off+i*4) (f i).cells:=fun j v hj=>by
    have:=hr j v hj
    rw[Addr.add_lit] at this
    rw[Nat.add_assoc];exact this
   exact ⟨block_lt_of_cell (hr2 0 _ (hc0 _)),hr2,ho⟩
end
end Go.Proofs.YtaakepjgpnaecaaGreat
namespace Go.Proofs.YtaakepjgpnaecaaGreat
set_option maxRecDepth 100000
open Go.RowKit Go.Maps
def sdr (v:Value):Option (DataW Unit × List MemPlace):=match v with |.string _=>some (.nil,[])|_=>none
theorem sdr_cases {v:Value}{y:DataW Unit × List MemPlace} (h:sdr v=some y):∃ s,v=.string s/\y=(.nil,[]):=by
 unfold sdr at h
 split at h
 · exact ⟨_,rfl,(Option.some.inj h).symm⟩
 · cases h
def MpS (w:World) (b:Nat) (K:List Int):Prop:=
 ∃ D:DataW Unit,w.ownsMap Tryz.prog 3 sdr b K.length D/\K.Nodup/\(∀ x∈K,(Lit.int .i64 x).wf=true)/\(∀ x,Maps.has D (.int .i64 x)=decide (x∈K))/\∀ x∈K,∀ z,D.atKey (.int .i64 x) z=.nil
theorem infoStS:(Tryz.prog.info? 9).map (fun i=>(i.zero,i.size,i.bytes))=some (some (.string ⟨#[]⟩),1,16):=by kernel_rfl
theorem zeroStS (w:World):(zeroValue 9).run Tryz.prog w=.ok (.string ⟨#[]⟩) w:=by
 obtain ⟨t,h2,h3,_⟩:=info_parts infoStS
 simp[zeroValue,typeInfo,h2,h3,Result.andThen]
theorem ownsS_tight {w:World}{b n:Nat}{D:DataW Unit} (h:w.ownsMap Tryz.prog 3 sdr b n D):w.ownsMap Tryz.prog 3 sdr b (Maps.size D) D:=by
 obtain ⟨es,clock,hb,F,hs,rfl⟩:=h
 exact ⟨es,clock,hb,F,Nat.le_of_eq (by unfold Maps.size;exact (length_read es).symm),rfl⟩
theorem ownsS_size {w:World}{b n:Nat}{D:DataW Unit} (h:w.ownsMap Tryz.prog 3 sdr b n D) {N:List Int} (hN:N.Nodup) (hh:∀ x,Maps.has D (.int .i64 x)=decide (x∈N)):Maps.size D=N.length:=by
 obtain ⟨es,rfl,hp,_⟩:=h.entries iKeyed
 have hk:∀ p∈es,∃ x,p.1=.int .i64 x:=fun p hp'=>by
  obtain ⟨es',e1,_,k⟩:=h.canonK iKeyed
  cases e1
  obtain ⟨v,hv⟩:=k p hp'
  obtain ⟨x,_,e,_⟩:=Maps.keyOf_i64 Tryz.underlying3 hv
  exact ⟨x,e⟩
 have hperm:=perm_intKeys hp hk hN (fun x=>by rw[hh x,decide_eq_true_eq])
 have:=hperm.length_eq
 rw[this]
 show es.length=(es.map fun p=>_root_.Go.intOf p.1).length
 rw[List.length_map]
theorem ownsS_mp {w:World}{b n:Nat}{D:DataW Unit} (h:w.ownsMap Tryz.prog 3 sdr b n D) {N:List Int} (hN:N.Nodup) (hw:∀ x∈N,(Lit.int .i64 x).wf=true) (hh:∀ x,Maps.has D (.int .i64 x)=decide (x∈N)) (hg:∀ x∈N,∀ z,D.atKey (.int .i64 x) z=.nil):MpS w b N:=by
 have h':=ownsS_tight h
 rw[ownsS_size h hN hh] at h'
 exact ⟨D,h',hN,hw,hh,hg⟩
section
variable {w:World}{b:Nat}{K:List Int}
theorem MpS.lt (h:MpS w b K):b<w.heap.size:=by
 obtain ⟨D,h,_⟩:=h
 exact h.lt
theorem MpS.keep {w':World} (h:MpS w b K) (hk:w'.heap[b]? =w.heap[b]?):MpS w' b K:=by
 obtain ⟨D,⟨es,clock,hb,r⟩,r'⟩:=h
 exact ⟨D,⟨es,clock,hk.trans hb,r⟩,r'⟩
theorem MpS.not_cells (h:MpS w b K) {k:Nat}{cs:Array Value}{T:TypeId}{z:Nat × Nat} (hk:w.heap[k]? =some (.cells cs T z)):b≠k:=fun e=>by
 obtain ⟨D,⟨es,clock,hb,_⟩,_⟩:=h
 rw[e,hk] at hb;cases hb
theorem MpS.nodup (h:MpS w b K):K.Nodup:=by obtain ⟨_,_,h,_⟩:=h;exact h
theorem MpS.made (w:World):MpS (w.alloc (.map #[] 0)) w.heap.size []:=
 ⟨.map [],World.ownsMap_made w _ _ _,List.nodup_nil,fun x hx=>absurd hx List.not_mem_nil,fun x=>rfl,fun x hx=>absurd hx List.not_mem_nil⟩
theorem MpS.look (h:MpS w b K) {x:Int} (hx:(Lit.int .i64 x).wf=true):∃ s,(Instr.lookup 67 (.map (some b)) (.int .i64 x) true).run Tryz.prog w=.ok (.tuple #[.string s,.bool (decide (x∈K))]) w:=by
 obtain ⟨D,⟨es,clock,hb,F,hs,rfl⟩,h2,h3,h4,h5⟩:=h
 rcases Maps.fit_look true iKeyed Tryz.underlying67 (zeroStS w) hb F (ikey hx) with ⟨hrun,hno,hat⟩| ⟨e0,y,he0,hk,hrun,hRv,hat,_⟩
 · have hn:x ∉ K:=fun hin=>by
    have ha:=h5 x hin
    have e2:=(hat (.lit (.bool true))).symm.trans (ha (.lit (.bool true)))
    cases e2
   rw[decide_eq_false hn]
   exact ⟨_,hrun⟩
 · have hn:x∈K:=by
    have:=h4 x
    rw[Maps.has_true_of_atKey hat] at this
    exact of_decide_eq_true this.symm
   rw[decide_eq_true hn]
   obtain ⟨s,hs2,_⟩:=sdr_cases hRv
   rw[hs2] at hrun
   exact ⟨s,hrun⟩
theorem MpS.store (h:MpS w b K) {x:Int} (hx:(Lit.int .i64 x).wf=true) (s:ByteArray) (hN:K.length<1000000):
 ∃ w',(Instr.mapUpdate 67 (.map (some b)) (.int .i64 x) (.string s)).run Tryz.prog w=.ok () w'/\MpS w' b (addS K x)/\w.grownBy w' (some b)/\w'.heap.size=w.heap.size:=by
 obtain ⟨D,h1,h2,h3,h4,h5⟩:=h
 have hlt:K.length<maxLen:=by simp only[maxLen];omega
 have hm:=h1.isMap
 have hkl:WideAt.IsKeyLit (.int .i64 x):=iKeyed.key (ikey hx)
 obtain ⟨w',hrun,h6,hg,ht⟩:∃ w',(Instr.mapUpdate 67 (.map (some b)) (.int .i64 x) (.string s)).run Tryz.prog w=.ok () w'/\w'.ownsMap Tryz.prog 3 sdr b (K.length+1) (D.put (.int .i64 x) .nil)/\w.grownBy w' (some b)/\w'.heap.size=w.heap.size:=by
  obtain ⟨w',hrun,h6,h7⟩:=h1.store iKeyed Tryz.underlying67 hlt (ikey hx) (val:=.string s) (d:=.nil) (ps:=[]) rfl
  exact ⟨w',hrun,h6,h7.grown,by obtain ⟨_,_,_,_,_,rfl⟩:=h7;simp[ChangeMaps.setBlock]⟩
 have hmem:∀ y,y∈addS K x ↔ y∈K\/y=x:=fun y=>by
  unfold addS
  split
  · exact ⟨.inl,fun h=>h.elim id fun e=>by rw[e];assumption⟩
  · simp
 refine ⟨w',hrun,ownsS_mp h6 ?_ ?_ ?_ ?_,hg,ht⟩
 · unfold addS
   split
   · exact h2
   · rename_i hn
     exact List.nodup_append.2 ⟨h2,by simp,fun a ha c hc e=>hn (by simp at hc;rw[<- hc,<- e];exact ha)⟩
 · intro y hy
   rcases (hmem y).1 hy with hy|rfl
   · exact h3 y hy
   · exact hx
 · intro y
   by_cases e:y=x
   · subst e
     rw[Maps.has_put_same hm hkl,decide_eq_true ((hmem y).2 (.inr rfl))]
   · rw[Maps.has_put_other (fun e'=>e (by cases e';rfl)),h4 y]
     exact decide_eq_decide.2 ⟨fun h=>(hmem y).2 (.inl h),fun h=>((hmem y).1 h).resolve_right e⟩
 · intro y hy z
   by_cases e:y=x
   · subst e
     exact Maps.atKey_put_same hm hkl .nil z
   · rw[Maps.atKey_put_other (fun e'=>e (by cases e';rfl))]
     exact h5 y (((hmem y).1 hy).resolve_right e) z
theorem MpS.drop (h:MpS w b K) {x:Int} (hx:(Lit.int .i64 x).wf=true) (ty:TypeId):
 ∃ w',(Builtin.delete_ #[67,3] ty #[.map (some b),.int .i64 x]).run Tryz.prog w=.ok (.tuple #[]) w'/\MpS w' b (K.erase x)/\w.grownBy w' (some b)/\w'.heap.size=w.heap.size:=by
 obtain ⟨D,h1,h2,h3,h4,h5⟩:=h
 have hm:=h1.isMap
 have hkl:WideAt.IsKeyLit (.int .i64 x):=iKeyed.key (ikey hx)
 have hti:=h1.tidy iKeyed
 obtain ⟨w',hrun,h6,h7⟩:=h1.drop iKeyed Tryz.underlying67 (ikey hx) ty
 have hmem:∀ y,y∈K.erase x ↔ y≠x/\y∈K:=fun y=>h2.mem_erase_iff
 refine ⟨w',hrun,ownsS_mp h6 (h2.erase x) (fun y hy=>h3 y ((hmem y).1 hy).2) (fun y=>?_) (fun y hy z=>?_),h7.grown,by obtain ⟨_,_,_,_,_,rfl⟩:=h7;simp[ChangeMaps.setBlock]⟩
 · by_cases e:y=x
   · subst e
     rw[Maps.has_del_same,decide_eq_false (fun h=>((hmem y).1 h).1 rfl)]
   · rw[Maps.has_del_other (fun e'=>e (by cases e';rfl)),h4 y]
     exact decide_eq_decide.2 ⟨fun h=>(hmem y).2 ⟨e,h⟩,fun h=>((hmem y).1 h).2⟩
 · rw[Maps.atKey_del_other (fun e'=>((hmem y).1 hy).1 (by cases e';rfl))]
   exact h5 y ((hmem y).1 hy).2 z
end
end Go.Proofs.YtaakepjgpnaecaaGreat
namespace Go.Proofs.YtaakepjgpnaecaaGreat
set_option maxRecDepth 100000
open Go.RowKit
def NodeR (w:World) (bn bp:Nat) (K:List Int):Prop:=
 ∃ (ao:Option Addr) (cap:Nat),w.heap[bn]? =some (.cells #[.int .i64 1,.int .i64 0,.int .i64 0,.map (some bp),.slice ao 0 cap] 70 (0,0))/\MpS w bp K/\∀ x∈K,0<=x/\x<138
section
variable {w:World}{bn bp:Nat}{K:List Int}
theorem NodeR.lt (h:NodeR w bn bp K):bn<w.heap.size/\bp<w.heap.size:=by
 obtain ⟨ao,cap,h1,h2,_⟩:=h
 exact ⟨(Array.getElem?_eq_some_iff.1 h1).1,h2.lt⟩
theorem NodeR.keep {w':World} (h:NodeR w bn bp K) (h1:w'.heap[bn]? =w.heap[bn]?) (h2:w'.heap[bp]? =w.heap[bp]?):NodeR w' bn bp K:=by
 obtain ⟨ao,cap,a,b,c⟩:=h
 exact ⟨ao,cap,h1.trans a,b.keep h2,c⟩
theorem NodeR.low {w':World} (h:NodeR w bn bp K) (hb:Below w.heap.size w w'):NodeR w' bn bp K:=h.keep (hb.block _ h.lt.1) (hb.block _ h.lt.2)
theorem NodeR.c0 (h:NodeR w bn bp K):w.cell? ⟨bn,0,none⟩=some (.int .i64 1):=by
 obtain ⟨ao,cap,a,_⟩:=h
 rw[cell_of_row _ _ _ _ _ _ a];rfl
theorem NodeR.c3 (h:NodeR w bn bp K):w.cell? ⟨bn,3,none⟩=some (.map (some bp)):=by
 obtain ⟨ao,cap,a,_⟩:=h
 rw[cell_of_row _ _ _ _ _ _ a];rfl
theorem NodeR.ne (h:NodeR w bn bp K):bp≠bn:=by
 obtain ⟨ao,cap,a,b,_⟩:=h
 exact b.not_cells a
theorem NodeR.map (h:NodeR w bn bp K):MpS w bp K:=by obtain ⟨_,_,_,b,_⟩:=h;exact b
theorem NodeR.bd (h:NodeR w bn bp K):∀ x∈K,0<=x/\x<138:=by obtain ⟨_,_,_,_,c⟩:=h;exact c
end
theorem wf_nat {i:Nat} (h:i<138):(Lit.int .i64 (i:Int)).wf=true:=i64wf (by omega)
def memK (K:List Int) (i:Nat):Int:=if (i:Int)∈K then 1 else 0
def farK (K:List Int):Nat->Nat
 |0=>0
 |k+1=>if (k:Int)∈K/\10<=k then 1 else farK K k
def usedN (K:List Int):Nat:=cntX (memK K) 138+farK K 138
theorem cntX_le (f:Nat->Int):∀ k,cntX f k<=k
 |0=>Nat.le_refl _
 |k+1=>by
  have h1:=cntX_le f k
  unfold cntX
  have h2:∀ (c:Prop) [Decidable c],(if c then 1 else 0:Nat)<=1:=fun c _=>by split <;> omega
  exact Nat.add_le_add h1 (h2 _)
theorem farK_le (K:List Int):∀ k,farK K k<=1
 |0=>Nat.zero_le _
 |k+1=>by
  unfold farK
  split
  · exact Nat.le_refl _
  · exact farK_le K k
theorem nUsed_of {w:World}{bn bp:Nat}{K:List Int} (h:NodeR w bn bp K):Calls Tryz.prog 32 #[.pointer (some ⟨bn,0,none⟩)] w fun e w'=>e=.returned (.int .i64 (usedN K:Nat))/\w=w':=by
 have c0:=h.c0
 have c3:=h.c3
 have HL:=Lib.hid (fun (i:Nat) (hi:i<138)=>h.map.look (wf_nat hi))
 have HC:=Lib.hid (cntX_le (memK K))
 have HF:=Lib.hid (farK_le K)
 obtain ⟨T,hT⟩:∃ T,T=usedN K:=⟨_,rfl⟩
 have HT:Hid (T=cntX (memK K) 138+farK K 138):=Lib.hid hT
 rw[<- hT]
 clear h hT
 go_enter Tryz.func32,Tryz.ntmps32
 go_wp2
 go_loopw [3,4,20] (fun m f i wr=>w=wr/\∃ k:Nat,k<=138/\i=.int .i64 k/\m=.int .i64 (cntX (memK K) k:Nat)/\f=.int .i64 (farK K k:Nat)) (fun _ _ i _=>138-(intOf i).toNat)
 case atStart=>exact ⟨rfl,0,by omega,rfl,rfl,rfl⟩
 case round=>
  obtain ⟨rfl,k,hk,rfl,rfl,rfl⟩:=hrel
  have hck:=HC.out k
  have hfk:=HF.out k
  by_cases hlt:k<138
  · obtain ⟨s,hs⟩:=HL.out k hlt
    have ek:(k:Int)<138:=by omega
    have h1:cntX (memK K) (k+1)=cntX (memK K) k+if memK K k≠0 then 1 else 0:=rfl
    have h2:farK K (k+1)=if (k:Int)∈K/\10<=k then 1 else farK K k:=rfl
    obtain ⟨c,hc⟩:∃ c,c=cntX (memK K) k:=⟨_,rfl⟩
    obtain ⟨f,hf⟩:∃ f,f=farK K k:=⟨_,rfl⟩
    rw[<- hc] at h1 hck |-
    rw[<- hf] at h2 hfk |-
    clear hc hf
    by_cases hin:(k:Int)∈K
    · rw[decide_eq_true hin] at hs
      have e1:cntX (memK K) (k+1)=c+1:=by rw[h1,if_pos];unfold memK;rw[if_pos hin];decide
      have HE1:=Lib.hid e1
      by_cases h10:10<=k
      · have HE2:Hid (farK K (k+1)=1):=Lib.hid (by rw[h2,if_pos ⟨hin,h10⟩])
        have e10:(10:Int)<=(k:Int):=by omega
        clear e1 h1 h2 hin
        go_wp2
        go_roundw
        case rel=>exact ⟨by trivial,k+1,by omega,by go_num,by rw[HE1.out];go_num,by rw[HE2.out];rfl⟩
        case measure=>simp[intOf];omega
      · have HE2:Hid (farK K (k+1)=f):=Lib.hid (by rw[h2,if_neg (fun h=>h10 h.2)])
        have e10:¬ (10:Int)<=(k:Int):=by omega
        clear e1 h1 h2 hin
        go_wp2
        go_roundw
        case rel=>exact ⟨by trivial,k+1,by omega,by go_num,by rw[HE1.out];go_num,by rw[HE2.out]⟩
        case measure=>simp[intOf];omega
    · rw[decide_eq_false hin] at hs
      have HE1:Hid (cntX (memK K) (k+1)=c):=Lib.hid (by rw[h1,if_neg (by unfold memK;rw[if_neg hin];exact fun h=>h rfl)];rfl)
      have HE2:Hid (farK K (k+1)=f):=Lib.hid (by rw[h2,if_neg (fun h=>hin h.1)])
      clear h1 h2 hin
      go_wp2
      go_roundw
      case rel=>exact ⟨by trivial,k+1,by omega,by go_num,by rw[HE1.out],by rw[HE2.out]⟩
      case measure=>simp[intOf];omega
  · obtain rfl:k=138:=by omega
    have hT:=HT.out
    obtain ⟨c,hc⟩:∃ c,c=cntX (memK K) 138:=⟨_,rfl⟩
    obtain ⟨f,hf⟩:∃ f,f=farK K 138:=⟨_,rfl⟩
    rw[<- hc] at hck hT |-
    rw[<- hf] at hfk hT |-
    have HT2:=Lib.hid hT
    clear hc hf hT
    go_wp2
    go_ret
    exact ⟨by rw[HT2.out];push_cast;rfl,rfl⟩
end Go.Proofs.YtaakepjgpnaecaaGreat
namespace Go.Proofs.YtaakepjgpnaecaaGreat
set_option maxRecDepth 100000
open Go.RowKit BM
def mdP (bn:Nat->Nat) (c i:Nat):Value:=if i<c then .pointer (some ⟨bn i,0,none⟩) else .pointer none
def rowM (bn:Nat->Nat) (c:Nat) (lim:Int):List Value:=[mdP bn c 0,mdP bn c 1,mdP bn c 2,mdP bn c 3,mdP bn c 4,mdP bn c 5,.int .i64 lim]
theorem rowM_get (bn:Nat->Nat) (c:Nat) (lim:Int) {i:Nat} (hi:i<6):(rowM bn c lim)[i]? =some (mdP bn c i):=by
 have:i=0\/i=1\/i=2\/i=3\/i=4\/i=5:=by omega
 rcases this with rfl|rfl|rfl|rfl|rfl|rfl <;> rfl
def updN (bn:Nat->Nat) (c b:Nat):Nat->Nat:=fun a=>if a=c then b else bn a
theorem rowM_set (bn:Nat->Nat) (lim:Int) {c:Nat} (hc:c<6) (b:Nat):(rowM bn c lim).set c (.pointer (some ⟨b,0,none⟩))=rowM (updN bn c b) (c+1) lim:=by
 have:c=0\/c=1\/c=2\/c=3\/c=4\/c=5:=by omega
 rcases this with rfl|rfl|rfl|rfl|rfl|rfl <;> rfl
theorem rowM_upd (bn:Nat->Nat) (lim:Int) {c:Nat} (hc:c<6) (b:Nat):(rowM bn 6 lim).set c (.pointer (some ⟨b,0,none⟩))=rowM (updN bn c b) 6 lim:=by
 have:c=0\/c=1\/c=2\/c=3\/c=4\/c=5:=by omega
 rcases this with rfl|rfl|rfl|rfl|rfl|rfl <;> rfl
structure Md (w:World) (bm:Nat) (bn bp:Nat->Nat) (Ks:Nat->List Int) (lim:Int):Prop where
 row:w.heap[bm]? =some (.cells (rowM bn 6 lim).toArray 42 (0,0))
 nd:∀ i,i<6->NodeR w (bn i) (bp i) (Ks i)
 inj:∀ i j,i<6->j<6->i≠j->bp i≠bp j
def Mob (bm:Nat) (bn bp:Nat->Nat) (k:Nat):Prop:=k=bm\/∃ i,i<6/\(k=bn i\/k=bp i)
section
variable {w:World}{bm:Nat}{bn bp:Nat->Nat}{Ks:Nat->List Int}{lim:Int}
theorem Md.lt (h:Md w bm bn bp Ks lim):bm<w.heap.size:=(Array.getElem?_eq_some_iff.1 h.row).1
theorem Md.cell (h:Md w bm bn bp Ks lim) {i:Nat} (hi:i<6):w.cell? ⟨bm,i,none⟩=some (.pointer (some ⟨bn i,0,none⟩)):=by
 rw[cell_of_row _ _ _ _ _ _ h.row]
 have:=rowM_get bn 6 lim hi
 unfold mdP at this
 rw[if_pos hi] at this
 simpa using this
theorem Md.cl (h:Md w bm bn bp Ks lim):w.cell? ⟨bm,6,none⟩=some (.int .i64 lim):=by
 rw[cell_of_row _ _ _ _ _ _ h.row];rfl
theorem Md.free (h:Md w bm bn bp Ks lim) (j:Nat):w.frozen? ⟨bm,j,none⟩=false:=by simp[World.frozen?,h.row]
theorem Md.mlt (h:Md w bm bn bp Ks lim) {k:Nat} (hk:Mob bm bn bp k):k<w.heap.size:=by
 rcases hk with rfl| ⟨i,hi,rfl|rfl⟩
 · exact h.lt
 · exact (h.nd i hi).lt.1
 · exact (h.nd i hi).lt.2
theorem Md.keep (h:Md w bm bn bp Ks lim) {w':World} (hk:∀ k,Mob bm bn bp k->w'.heap[k]? =w.heap[k]?):Md w' bm bn bp Ks lim:=
 ⟨(hk bm (.inl rfl)).trans h.row,fun i hi=>(h.nd i hi).keep (hk _ (.inr ⟨i,hi,.inl rfl⟩)) (hk _ (.inr ⟨i,hi,.inr rfl⟩)),h.inj⟩
theorem Md.low (h:Md w bm bn bp Ks lim) {w':World} (hb:Below w.heap.size w w'):Md w' bm bn bp Ks lim:=h.keep fun k hk=>hb.block k (h.mlt hk)
theorem Md.chg (h:Md w bm bn bp Ks lim) {w':World}{P P':Nat->Prop} (hc:Chg P P' w w') (ha:∀ k,Mob bm bn bp k->¬ P k):Md w' bm bn bp Ks lim/\∀ k,Mob bm bn bp k->¬ P' k:=
 ⟨h.keep fun k hk=>(hc.keep k (h.mlt hk) (ha k hk)).1,fun k hk=>(hc.keep k (h.mlt hk) (ha k hk)).2⟩
end
def totM (Ks:Nat->List Int):Nat->Nat
 |0=>0
 |c+1=>totM Ks c+usedN (Ks c)
theorem usedN_le (K:List Int):usedN K<=139:=by
 unfold usedN
 have:=cntX_le (memK K) 138
 have:=farK_le K 138
 omega
theorem totM_le (Ks:Nat->List Int):∀ c,totM Ks c<=139*c
 |0=>Nat.le_refl _
 |c+1=>by
  rw[totM]
  have:=totM_le Ks c
  have:=usedN_le (Ks c)
  omega
theorem used_of {w:World}{bm:Nat}{bn bp:Nat->Nat}{Ks:Nat->List Int}{lim:Int} (h:Md w bm bn bp Ks lim):Calls Tryz.prog 12 #[.pointer (some ⟨bm,0,none⟩)] w fun e w'=>e=.returned (.int .i64 (totM Ks 6:Nat))/\w=w':=by
 have HC:=Lib.hid (fun (i:Nat) (hi:i<6)=>h.cell hi)
 have KU:=Lib.hid (fun (i:Nat) (hi:i<6)=>nUsed_of (h.nd i hi))
 have HT:=Lib.hid (totM_le Ks)
 have HU:=Lib.hid (fun c=>usedN_le (Ks c))
 obtain ⟨T,hT⟩:∃ T,T=totM Ks 6:=⟨_,rfl⟩
 rw[<- hT]
 have HTT:=Lib.hid hT
 clear h hT
 go_enter Tryz.func12,Tryz.ntmps12
 go_wp2
 go_loopw [3,5] (fun m i wr=>w=wr/\∃ c:Nat,c<=6/\i=.int .i64 c/\m=.int .i64 (totM Ks c:Nat)) (fun _ i _=>6-(intOf i).toNat)
 case atStart=>exact ⟨rfl,0,by omega,rfl,rfl⟩
 case round=>
  obtain ⟨rfl,c,hc,rfl,rfl⟩:=hrel
  have ht:=HT.out c
  by_cases hlt:c<6
  · have cc:=HC.out c hlt
    have KU1:=Lib.hid (KU.out c hlt)
    have hu:=HU.out c
    have ec:(c:Int)<6:=by omega
    have HS:Hid (totM Ks (c+1)=totM Ks c+usedN (Ks c)):=Lib.hid rfl
    obtain ⟨t,htt⟩:∃ t,t=totM Ks c:=⟨_,rfl⟩
    obtain ⟨u,huu⟩:∃ u,u=usedN (Ks c):=⟨_,rfl⟩
    rw[<- htt] at ht HS |-
    rw[<- huu] at hu HS KU1
    clear htt huu
    go_wp2_with (go_at_call 32;refine KU1.out.mono ?_;rintro e w' ⟨rfl,rfl⟩)
    go_roundw
    case rel=>exact ⟨by trivial,c+1,by omega,by go_num,by rw[HS.out];push_cast;rfl⟩
    case measure=>simp[intOf];omega
  · obtain rfl:c=6:=by omega
    rw[<- HTT.out]
    clear ht
    go_wp2
    go_ret
    exact ⟨rfl,rfl⟩
def MdI (w:World) (bm c:Nat) (wr:World):Prop:=
 w.heap.size<=bm/\Below w.heap.size w wr/\∃ bn bp:Nat->Nat,wr.heap[bm]? =some (.cells (rowM bn c 0).toArray 42 (0,0))/\(∀ i,i<c->NodeR wr (bn i) (bp i) []/\bm<bn i/\bm<bp i)/\∀ i j,i<c->j<c->i≠j->bp i≠bp j
theorem newM_of (w:World):Calls Tryz.prog 9 #[.int .i64 0] w fun e w'=>∃ bm bn bp,e=.returned (.pointer (some ⟨bm,0,none⟩))/\Md w' bm bn bp (fun _=>[]) 0/\(∀ k,Mob bm bn bp k->w.heap.size<=k)/\Below w.heap.size w w':=by
 have HI0:Hid (MdI w w.heap.size 0 (w.alloc (.cells #[.pointer none,.pointer none,.pointer none,.pointer none,.pointer none,.pointer none,.int .i64 0] 42))):=Lib.hid ⟨Nat.le_refl _,below_box _ _,fun _=>0,fun _=>0,heap_alloc_new w _,fun i hi=>absurd hi (Nat.not_lt_zero _),fun i j hi=>absurd hi (Nat.not_lt_zero _)⟩
 have HST:Hid (∀ (bm c:Nat) (wr:World),c<6->MdI w bm c wr->((wr.alloc (.map #[] 0)).alloc (.cells #[.int .i64 1,.int .i64 0,.int .i64 0,.map (some wr.heap.size),.slice none 0 0] 70)).cell? ⟨bm,c,none⟩=some (.pointer none)/\((wr.alloc (.map #[] 0)).alloc (.cells #[.int .i64 1,.int .i64 0,.int .i64 0,.map (some wr.heap.size),.slice none 0 0] 70)).frozen? ⟨bm,c,none⟩=false/\
  MdI w bm (c+1) (((wr.alloc (.map #[] 0)).alloc (.cells #[.int .i64 1,.int .i64 0,.int .i64 0,.map (some wr.heap.size),.slice none 0 0] 70)).setCell ⟨bm,c,none⟩ (.pointer (some ⟨wr.heap.size+1,0,none⟩)))):=Lib.hid fun bm c wr hc ⟨hbm,hb,bn,bp,hr,hn,hi⟩=>by
  have hb1:=below_box wr (.map #[] 0)
  have hs1:(wr.alloc (.map #[] 0)).heap.size=wr.heap.size+1:=by simp
  have hb2:=below_box (wr.alloc (.map #[] 0)) (.cells #[.int .i64 1,.int .i64 0,.int .i64 0,.map (some wr.heap.size),.slice none 0 0] 70)
  have hn2:=heap_alloc_new (wr.alloc (.map #[] 0)) (.cells #[.int .i64 1,.int .i64 0,.int .i64 0,.map (some wr.heap.size),.slice none 0 0] 70)
  rw[hs1] at hn2
  have hm2:=(MpS.made wr).keep (hb2.block _ (by rw[hs1];omega))
  have hb12:=hb1.trans (hb2.mono hb1.size)
  have hr2:=below_hold hr hb12
  obtain ⟨w2,hw2⟩:∃ w2,w2=(wr.alloc (.map #[] 0)).alloc (.cells #[.int .i64 1,.int .i64 0,.int .i64 0,.map (some wr.heap.size),.slice none 0 0] 70):=⟨_,rfl⟩
  rw[<- hw2] at hn2 hm2 hb12 hr2 |-
  have hbl:=(Array.getElem?_eq_some_iff.1 hr).1
  have hws:=Wrote.setCell w2 bm c (.pointer (some ⟨wr.heap.size+1,0,none⟩))
  have hnode:NodeR (w2.setCell ⟨bm,c,none⟩ (.pointer (some ⟨wr.heap.size+1,0,none⟩))) (wr.heap.size+1) wr.heap.size []:=
   ⟨none,0,(hws.2.2.2.2 _ (by omega)).trans hn2,hm2.keep (hws.2.2.2.2 _ (by omega)),fun x hx=>absurd hx List.not_mem_nil⟩
  refine ⟨?_,by simp[World.frozen?,hr2],hbm,hb.trans ((hb12.mono hb.size).trans (hws.below hbm)),updN bn c (wr.heap.size+1),updN bp c wr.heap.size,?_,fun i h=>?_,fun i j h1 h2 hne=>?_⟩
  · rw[cell_of_row _ _ _ _ _ _ hr2]
    have:=rowM_get bn c 0 hc
    unfold mdP at this
    rw[if_neg (Nat.lt_irrefl _)] at this
    simpa using this
  · rw[heap_setCell_same w2 bm c _ _ _ hr2]
    simp only[List.setIfInBounds_toArray]
    rw[rowM_set _ _ hc]
  · unfold updN
    by_cases e:i=c
    · rw[if_pos e,if_pos e];exact ⟨hnode,by omega,hbl⟩
    · rw[if_neg e,if_neg e]
      obtain ⟨a,b1,b2⟩:=hn i (by omega)
      exact ⟨(a.low hb12).keep (hws.2.2.2.2 _ (by omega)) (hws.2.2.2.2 _ (by omega)),b1,b2⟩
  · unfold updN
    by_cases e1:i=c
    · rw[if_pos e1,if_neg (by omega)]
      have:=(hn j (by omega)).1.lt.2
      omega
    · rw[if_neg e1]
      by_cases e2:j=c
      · rw[if_pos e2]
        have:=(hn i (by omega)).1.lt.2
        omega
      · rw[if_neg e2];exact hi i j (by omega) (by omega) hne
 have hmm:=@run_makeMap Tryz.prog
 go_enter Tryz.func9,Tryz.ntmps9
 go_wp2
 go_loopw [8] (fun i wr=>∃ c:Nat,c<=6/\i=.int .i64 c/\Hid (MdI w w.heap.size c wr)) (fun i _=>6-(intOf i).toNat)
 case atStart=>exact ⟨0,by omega,rfl,HI0⟩
 case round=>
  obtain ⟨c,hc,rfl,HI⟩:=hrel
  clear HI0
  by_cases hlt:c<6
  · obtain ⟨h1,h2,h3⟩:=HST.out _ c wr hlt HI.out
    have HI2:=Lib.hid h3
    have ec:(c:Int)<6:=by omega
    clear h3
    go_wp2
    go_roundw
    case rel=>exact ⟨c+1,by omega,by go_num,HI2⟩
    case measure=>simp[intOf];omega
  · obtain rfl:c=6:=by omega
    obtain ⟨hbm,hb,bn,bp,hr,hn,hi⟩:=HI.out
    have HR:Hid (∃ bn bp,Md wr w.heap.size bn bp (fun _=>[]) 0/\∀ k,Mob w.heap.size bn bp k->w.heap.size<=k):=Lib.hid ⟨bn,bp,⟨hr,fun i h=>(hn i h).1,hi⟩,fun k hk=>by
     rcases hk with rfl| ⟨i,h6,rfl|rfl⟩
     · exact Nat.le_refl _
     · have:=(hn i h6).2.1;omega
     · have:=(hn i h6).2.2;omega⟩
    have HB:=Lib.hid hb
    clear hbm hb hr hn hi
    go_wp2
    go_ret
    obtain ⟨bn,bp,hm,hk⟩:=HR.out
    exact ⟨_,bn,bp,rfl,hm,hk,HB.out⟩
theorem infoRE:(Tryz.prog.info? 299).map (fun i=>(i.zero,i.size,i.bytes))=some (some (.agg #[.int .i64 0,.string ⟨#[]⟩]),2,24):=by kernel_rfl
theorem build_none (W:World):(Instr.buildSlice 68 0 #[]).run Tryz.prog W=.ok (.slice (some ⟨W.heap.size,0,none⟩) 0 0) (W.alloc (.cells #[] 299)):=by
 obtain ⟨t,h2,h3,h4,h5⟩:=info_parts infoRE
 simp[Instr.buildSlice,run_underlying Tryz.underlying68,sizeOf,typeInfo,h2,newRow,Instr.fill,Array.range]
 congr 2
 apply Array.ext
 · simp
 · intro i h1 h3
   simp at h3
theorem append_none (W:World) (ao:Option Addr) (cap:Nat) (ty:TypeId) (g:Addr):(Builtin.append_ #[68,68] ty #[.slice (some g) 0 0,.slice ao 0 cap]).run Tryz.prog W=.ok (.slice (some g) 0 0) W:=by
 obtain ⟨t,h2,h3,h4,h5⟩:=info_parts infoRE
 cases ao <;> simp[Builtin.lenOf,Builtin.firstCells,storeCells,loadCells,loadCellsFrom,Builtin.append_,run_underlying Tryz.underlying68,sizeOf,typeInfo,zeroValue,h2,h3,h5]
theorem step_append_none {ops:Array Oper}{o:Oper}{a:Act}{w:World}{K:Act->World->Prop}{Q:Exit->Act->World->Prop}{E:Prop} (hgd:o.guard=none) (s x:Operand)
 (ho:o.op=.call { callee:=.builtin .append,args:=#[s,x],argTypes:=#[68,68] }) (ao:Option Addr) (cap:Nat) (g:Addr) (hs:a.eval s=.slice (some g) 0 0) (hx:a.eval x=.slice ao 0 cap)
 (h:K (a.put o.dst (.slice (some g) 0 0)) w):if Region.wanted o (yielded ops a.tmps)=true then Oper.wp Tryz.prog o a w K Q else E:=by
 rw[if_pos (by simp[Region.wanted,hgd])]
 have hr:=append_none w ao cap o.type g
 unfold Oper.wp execOp
 simp only[ho,resolve,invoke,builtin,Sem.run_bind,Sem.run_pure,Result.andThen_ok,List.map_toArray,List.map_cons,List.map_nil,hs,hx,hr]
 exact h
theorem Below.al {w V:World} (hb:Below w.heap.size w V) (o:Obj):Below w.heap.size w (V.alloc o):=hb.trans ((below_box V o).mono hb.size)
def CpI (w:World) (K:List Int) (bn k:Nat) (wr:World):Prop:=
 Below w.heap.size w wr/\w.heap.size<=bn/\∃ bp K',w.heap.size<=bp/\NodeR wr bn bp K'/\∀ x,x∈K' ↔ x∈K/\x<k
theorem cp_start {w wr:World}{K:List Int}{bn bp:Nat}{ao:Option Addr}{cap:Nat} (hK:∀ x∈K,0<=x/\x<138) (hb:Below w.heap.size w wr) (h1:w.heap.size<=bn) (h2:w.heap.size<=bp) (hn:wr.heap[bn]? =some (.cells #[.int .i64 1,.int .i64 0,.int .i64 0,.map (some bp),.slice ao 0 cap] 70 (0,0))) (hm:MpS wr bp []):CpI w K bn 0 wr:=
 ⟨hb,h1,bp,[],h2,⟨ao,cap,hn,hm,fun x hx=>absurd hx List.not_mem_nil⟩,fun x=>⟨fun h=>absurd h List.not_mem_nil,fun h=>absurd (hK x h.1) (by have:=h.2;omega)⟩⟩
theorem addS_iff {K:List Int}{n y:Int}:y∈addS K n ↔ y∈K\/y=n:=by
 unfold addS
 split
 · exact ⟨.inl,fun h=>h.elim id fun e=>by rw[e];assumption⟩
 · simp
theorem keys_le {K:List Int} (hn:K.Nodup) (hb:∀ x∈K,0<=x/\x<138):K.length<=138:=by
 have:=nodup_le K ((List.range 138).map (fun i:Nat=>(i:Int))) hn fun a ha=>List.mem_map.2 ⟨a.toNat,List.mem_range.2 (by have:=hb a ha;omega),by have:=hb a ha;omega⟩
 rwa [List.length_map,List.length_range] at this
theorem NodeR.put {w:World}{bn bp:Nat}{K:List Int} (h:NodeR w bn bp K) {i:Nat} (hi:i<138) (s:ByteArray):
 ∃ w',(Instr.mapUpdate 67 (.map (some bp)) (.int .i64 i) (.string s)).run Tryz.prog w=.ok () w'/\NodeR w' bn bp (addS K i)/\w.grownBy w' (some bp)/\w'.heap.size=w.heap.size:=by
 have hbd:=h.bd
 have hne:=h.ne
 obtain ⟨ao,cap,h1,h2,h3⟩:=h
 obtain ⟨w',hr,hm,hg,hs⟩:=h2.store (wf_nat hi) s (by have:=keys_le h2.nodup h3;omega)
 refine ⟨w',hr,⟨ao,cap,(hg.block bn (Array.getElem?_eq_some_iff.1 h1).1 (by intro e;exact hne (Option.some.inj e).symm)).trans h1,hm,fun x hx=>?_⟩,hg,hs⟩
 rcases addS_iff.1 hx with hx|rfl
 · exact h3 x hx
 · omega
theorem CpI.step {w wr:World}{K:List Int}{bn k:Nat} (h:CpI w K bn k wr) (hk:k<138) (hin:(k:Int)∈K) (s:ByteArray):
 ∃ bp w',wr.cell? ⟨bn,3,none⟩=some (.map (some bp))/\(Instr.mapUpdate 67 (.map (some bp)) (.int .i64 k) (.string s)).run Tryz.prog wr=.ok () w'/\CpI w K bn (k+1) w':=by
 obtain ⟨hb,h1,bp,K',h2,hn,hm⟩:=h
 obtain ⟨w',hr,hn',hg,hs⟩:=hn.put hk s
 refine ⟨bp,w',hn.c3,hr,hb.trans ((Below.refl _ _).grown hg hb.size fun x hx=>by cases hx;exact h2),h1,bp,_,h2,hn',fun x=>?_⟩
 rw[addS_iff,hm x]
 constructor
 · rintro (⟨a,b⟩|rfl)
   · exact ⟨a,by omega⟩
   · exact ⟨hin,by omega⟩
 · rintro ⟨a,b⟩
   by_cases e:x=k
   · exact .inr e
   · exact .inl ⟨a,by omega⟩
theorem CpI.skip {w wr:World}{K:List Int}{bn k:Nat} (h:CpI w K bn k wr) (hin:(k:Int) ∉ K):CpI w K bn (k+1) wr:=by
 obtain ⟨hb,h1,bp,K',h2,hn,hm⟩:=h
 refine ⟨hb,h1,bp,K',h2,hn,fun x=>?_⟩
 rw[hm x]
 constructor
 · rintro ⟨a,b⟩;exact ⟨a,by omega⟩
 · rintro ⟨a,b⟩
   refine ⟨a,?_⟩
   have:x≠k:=fun e=>hin (e ▸ a)
   omega
theorem nCopy_of {w:World}{bn bp:Nat}{K:List Int} (h:NodeR w bn bp K):Calls Tryz.prog 30 #[.pointer (some ⟨bn,0,none⟩)] w fun e w'=>∃ bn' bp' K',e=.returned (.pointer (some ⟨bn',0,none⟩))/\NodeR w' bn' bp' K'/\(∀ x,x∈K' ↔ x∈K)/\w.heap.size<=bn'/\w.heap.size<=bp'/\Below w.heap.size w w':=by
 have hK:=h.bd
 have HK:=Lib.hid hK
 have HN:Hid (∀ V,Below w.heap.size w V->NodeR V bn bp K):=Lib.hid fun V hV=>h.low hV
 obtain ⟨ao,cap,hr,_,_⟩:=h
 have HC:Hid (∀ V,Below w.heap.size w V->V.cell? ⟨bn,0,none⟩=some (.int .i64 1)/\V.cell? ⟨bn,1,none⟩=some (.int .i64 0)/\V.cell? ⟨bn,2,none⟩=some (.int .i64 0)/\V.cell? ⟨bn,4,none⟩=some (.slice ao 0 cap)):=Lib.hid fun V hV=>by
  have hr2:=below_hold hr hV
  exact ⟨by rw[cell_of_row _ _ _ _ _ _ hr2];rfl,by rw[cell_of_row _ _ _ _ _ _ hr2];rfl,by rw[cell_of_row _ _ _ _ _ _ hr2];rfl,by rw[cell_of_row _ _ _ _ _ _ hr2];rfl⟩
 have hmm:=@run_makeMap Tryz.prog
 have hbs:=build_none
 have hap:=fun W ty g=>append_none W ao cap ty g
 have HA:Hid (CpI w K (w.heap.size+1+1) 0 (((w.alloc (.map #[] 0)).alloc (.cells #[] 299)).alloc (.cells #[.int .i64 1,.int .i64 0,.int .i64 0,.map (some w.heap.size),.slice (some ⟨w.heap.size+1,0,none⟩) 0 0] 70)).drew):=Lib.hid (by
  have h3:=heap_alloc_new ((w.alloc (.map #[] 0)).alloc (.cells #[] 299)) (.cells #[.int .i64 1,.int .i64 0,.int .i64 0,.map (some w.heap.size),.slice (some ⟨w.heap.size+1,0,none⟩) 0 0] 70)
  rw[show ((w.alloc (.map #[] 0)).alloc (.cells #[] 299)).heap.size=w.heap.size+1+1 by simp] at h3
  have b1:=below_box (w.alloc (.map #[] 0)) (.cells #[] 299)
  have b2:=below_box ((w.alloc (.map #[] 0)).alloc (.cells #[] 299)) (.cells #[.int .i64 1,.int .i64 0,.int .i64 0,.map (some w.heap.size),.slice (some ⟨w.heap.size+1,0,none⟩) 0 0] 70)
  have h4:=((MpS.made w).keep (b1.block _ (by simp))).keep (b2.block _ (by simp;omega))
  exact cp_start hK (Below.al (w:=w) (Below.al (w:=w) (Below.al (w:=w) (Below.refl _ w) _) _) _).drew (by omega) (Nat.le_refl _) h3 h4)
 have HB:Hid (CpI w K (w.heap.size+1+1) 0 (((w.alloc (.cells #[] 299)).alloc (.map #[] 0)).alloc (.cells #[.int .i64 1,.int .i64 0,.int .i64 0,.map (some (w.heap.size+1)),.slice (some ⟨w.heap.size,0,none⟩) 0 0] 70)).drew):=Lib.hid (by
  have h3:=heap_alloc_new ((w.alloc (.cells #[] 299)).alloc (.map #[] 0)) (.cells #[.int .i64 1,.int .i64 0,.int .i64 0,.map (some (w.heap.size+1)),.slice (some ⟨w.heap.size,0,none⟩) 0 0] 70)
  rw[show ((w.alloc (.cells #[] 299)).alloc (.map #[] 0)).heap.size=w.heap.size+1+1 by simp] at h3
  have b2:=below_box ((w.alloc (.cells #[] 299)).alloc (.map #[] 0)) (.cells #[.int .i64 1,.int .i64 0,.int .i64 0,.map (some (w.heap.size+1)),.slice (some ⟨w.heap.size,0,none⟩) 0 0] 70)
  have h4:=MpS.made (w.alloc (.cells #[] 299))
  rw[show (w.alloc (.cells #[] 299)).heap.size=w.heap.size+1 by simp] at h4
  exact cp_start hK (Below.al (w:=w) (Below.al (w:=w) (Below.al (w:=w) (Below.refl _ w) _) _) _).drew (by omega) (by omega) h3 (h4.keep (b2.block _ (by simp))))
 clear hr hK
 go_enter Tryz.func30,Tryz.ntmps30
 go_wp2
 go_region_held3 (fun V=>V.cell? ⟨bn,0,none⟩=some (.int .i64 1)/\V.cell? ⟨bn,1,none⟩=some (.int .i64 0)/\V.cell? ⟨bn,2,none⟩=some (.int .i64 0)/\V.cell? ⟨bn,4,none⟩=some (.slice ao 0 cap)) ((refine HC.out _ ?_;repeat (first|exact Below.refl _ _|refine Below.al ?_ _|refine Below.drew ?_))) (first|(refine step_append_none rfl _ _ rfl ao cap _ rfl rfl ?_))
 all_goals
  clear hmm hbs hap HC HK
  go_wp2
  go_loopw [28] (fun i wr=>∃ k:Nat,k<=138/\i=.int .i64 k/\Hid (CpI w K (w.heap.size+1+1) k wr)) (fun i _=>138-(intOf i).toNat)
  case atStart=>first|exact ⟨0,by omega,rfl,HA⟩|exact ⟨0,by omega,rfl,HB⟩
  case round=>
   obtain ⟨k,hk,rfl,HI⟩:=hrel
   clear HA HB
   by_cases hlt:k<138
   · have hn:=HN.out wr HI.out.1
     have c3:=hn.c3
     obtain ⟨s,hs⟩:=hn.map.look (wf_nat hlt)
     have ek:(k:Int)<138:=by omega
     by_cases hin:(k:Int)∈K
     · rw[decide_eq_true hin] at hs
       obtain ⟨b2,w2,d3,hr,h2⟩:=HI.out.step hlt hin s
       have HI2:=Lib.hid h2
       clear hn hin h2
       go_wp2
       go_roundw
       case rel=>exact ⟨k+1,by omega,by go_num,HI2⟩
       case measure=>simp[intOf];omega
     · rw[decide_eq_false hin] at hs
       have HI2:=Lib.hid (HI.out.skip hin)
       clear hn hin
       go_wp2
       go_roundw
       case rel=>exact ⟨k+1,by omega,by go_num,HI2⟩
       case measure=>simp[intOf];omega
   · obtain rfl:k=138:=by omega
     go_wp2
     go_ret
     obtain ⟨hb,h1,bp',K',h2,hn',hm⟩:=HI.out
     exact ⟨_,bp',K',rfl,hn',fun x=>by rw[hm x];exact ⟨fun h=>h.1,fun h=>⟨h,((HN.out w (Below.refl _ _)).bd x h).2⟩⟩,h1,h2,hb⟩
end Go.Proofs.YtaakepjgpnaecaaGreat
