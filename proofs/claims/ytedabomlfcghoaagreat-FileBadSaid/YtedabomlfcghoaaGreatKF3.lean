/- What the law rests on: part 3. -/
import Derived.IntWalk
import Derived.RegionTactic
import Derived.BigRegion
import Derived.Deep.RegionHeld3
import Derived.Test.YtedabomlfcghoaaGreatKF2
set_option linter.unusedVariables false
namespace Go.Proofs.YtedabomlfcghoaaGreat
set_option maxRecDepth 100000
open Go.RowKit
theorem pGet_at {w:World}{b off cap:Nat}{l:List Int} (hby:Byt l) (hl:l.length<=140737488355300)
 (hc:∀ j,j<l.length->w.cell? ⟨b,off+j,none⟩=some (.int .u8 (l.getD j 0))) (a k:Nat) (hk1:1<=k) (hk:k<=8) (hak:a+k<=l.length):
 Calls Tryz.prog 144 #[.slice (some ⟨b,off,none⟩) l.length cap,.int .i64 a,.int .i64 k] w fun e w'=>e=.returned (.tuple #[.int .u64 (getV l a k),.bool true])/\w=w':=by
 obtain ⟨N,hN⟩:∃ N,N=l.length:=⟨_,rfl⟩
 rw[<- hN] at hl hc hak |-
 have HN:=Lib.hid hN
 have HC:=Lib.hid hc
 have HB:=Lib.hid (byt_mem hby)
 have HBY:=Lib.hid hby
 clear hN hc hby
 go_enter Tryz.func144,Tryz.ntmps144
 go_wp2_with (go_at_call 178;refine (pIsSize_yes _ _ ⟨by omega,by omega⟩).mono ?_;rintro e w' ⟨rfl,rfl⟩)
 go_loop [8,9] (fun c i=>∃ (j:Nat) (m:Int),j<=k/\i=.int .i64 ((j:Int)-1)/\c=.int .u64 m/\Hid (m=getV l (a+j) (k-j)))
  (fun _ i=>(intOf i+1).toNat)
 case atStart=>exact ⟨k,0,by omega,rfl,rfl,by simp[Hid,getV_zero]⟩
 case round=>
  obtain ⟨j,m,hj,rfl,rfl,HM⟩:=hrel
  have hb:=getV_bound HB.out (a+j) (k-j)
  rw[<- HM.out] at hb
  by_cases hlt:1<=j
  · have hp:=pow256_le (show k-j<=7 by omega)
    have hm1:m<72057594037927936:=by omega
    have hm0:=hb.1
    have hx:=HBY.out (a+j-1)
    have hcx:=HC.out (a+j-1) (by omega)
    obtain ⟨x,hx'⟩:∃ x,x=l.getD (a+j-1) 0:=⟨_,rfl⟩
    rw[<- hx'] at hx hcx
    have HX:=Lib.hid hx'
    clear hx' hb hp
    have e1:(a:Int)+((j:Int)-1)<(N:Int):=by omega
    have e2:((a:Int)+((j:Int)-1)).toNat=a+j-1:=by omega
    go_wp2_with fail
    go_round
    case rel=>
     refine ⟨j-1,_,by omega,by congr 1;omega,rfl,?_⟩
     show _=_
     have h8:=or_low m x 8 hm0 hx.1 (by omega) (by omega) (by omega)
     rw[show m*2 ^ 8=m*256 from rfl] at h8
     rw[h8,show k-(j-1)=k-j+1 by omega,getV_head l _ _ (by have:=HN.out;omega),show a+(j-1)=a+j-1 by omega,<- HX.out,show a+j-1+1=a+j by omega,<- HM.out]
     omega
    case measure=>simp[intOf];omega
  · go_wp2_with fail
    go_ret2
    obtain rfl:j=0:=by omega
    exact ⟨by rw[HM.out];simp,rfl⟩
theorem pGet_no {w:World}{ao:Option Addr}{len cap:Nat} (hl:len<=140737488355300) (a k:Int) (h0: -9223372036854775808<=a) (h1:a<=9223372036854775807) (h:¬ (1<=k/\k<=8/\0<=a/\a+k<=len)):
 Calls Tryz.prog 144 #[.slice ao len cap,.int .i64 a,.int .i64 k] w fun e w'=>e=.returned (.tuple #[.int .u64 0,.bool false])/\w=w':=by
 by_cases hk:1<=k/\k<=8
 · by_cases ha:0<=a
   · have hh:(len:Int)-k<a:=by omega
     have hk8:=hk.2
     have hk1:=hk.1
     go_enter Tryz.func144,Tryz.ntmps144
     go_wp2_with (go_at_call 178;refine (pIsSize_yes _ _ hk).mono ?_;rintro e w' ⟨rfl,rfl⟩)
     go_ret2
     exact ⟨rfl,rfl⟩
   · have ha':a<0:=by omega
     go_enter Tryz.func144,Tryz.ntmps144
     go_wp2_with (go_at_call 178;refine (pIsSize_yes _ _ hk).mono ?_;rintro e w' ⟨rfl,rfl⟩)
     go_ret2
     exact ⟨rfl,rfl⟩
 · go_enter Tryz.func144,Tryz.ntmps144
   go_wp2_with (go_at_call 178;refine (pIsSize_no _ _ hk).mono ?_;rintro e w' ⟨rfl,rfl⟩)
   go_ret2
   exact ⟨rfl,rfl⟩
theorem pSum_some {w:World}{b off cap:Nat}{l:List Int} (hl:l.length<=140737488355300) (hby:Byt l)
 (hc:∀ j,j<l.length->w.cell? ⟨b,off+j,none⟩=some (.int .u8 (l.getD j 0))):
 Calls Tryz.prog 186 #[.slice (some ⟨b,off,none⟩) l.length cap] w fun e w'=>e=.returned (.int .u32 (sumS l))/\w=w':=by
 obtain ⟨N,hN⟩:∃ N,N=l.length:=⟨_,rfl⟩
 rw[<- hN] at hl hc |-
 have HN:=Lib.hid hN
 have HC:=Lib.hid hc
 have HBY:=Lib.hid hby
 clear hN hc hby
 go_enter Tryz.func186,Tryz.ntmps186
 go_wp2_with fail
 go_loop [3,8] (fun c i=>∃ (j:Nat) (m:Int),j<=N/\i=.int .i64 j/\c=.int .u32 m/\0<=m/\m<4294967296/\Hid (m=sumS (l.take j))) (fun _ i=>N-(intOf i).toNat)
 case atStart=>exact ⟨0,_,by omega,rfl,rfl,by omega,by omega,rfl⟩
 case round=>
  obtain ⟨j,m,hj,rfl,rfl,hm0,hm1,HM⟩:=hrel
  by_cases hlt:j<N
  · have hx:=HBY.out j
    have hcx:=HC.out j hlt
    obtain ⟨x,hx'⟩:∃ x,x=l.getD j 0:=⟨_,rfl⟩
    rw[<- hx'] at hx hcx
    have HX:=Lib.hid hx'
    clear hx'
    go_wp2_with fail
    go_round
    case rel=>
     refine ⟨j+1,_,by omega,by go_num,rfl,(fnvStep_bound m x).1,(fnvStep_bound m x).2,?_⟩
     show _=_
     rw[sumS_take l j (by have:=HN.out;omega),<- HM.out,<- HX.out];rfl
    case measure=>simp[intOf];omega
  · go_wp2_with fail
    go_ret
    exact ⟨ret_int (by rw[HM.out,List.take_of_length_le (by have:=HN.out;omega)]),rfl⟩
theorem pSum_zero {w:World}{ao:Option Addr}{cap:Nat}:
 Calls Tryz.prog 186 #[.slice ao 0 cap] w fun e w'=>e=.returned (.int .u32 (sumS []))/\w=w':=by
 go_enter Tryz.func186,Tryz.ntmps186
 go_wp2_with fail
 refine wp_loop_rounds 1 ?_
 rw[rounds_succ]
 go_wp2_with fail
 go_ret
 exact ⟨rfl,rfl⟩
theorem pSum_any {w:World}{v:Value}{l:List Int} (hs:BSl w v l) (hl:l.length<=140737488355300):
 Calls Tryz.prog 186 #[v] w fun e w'=>e=.returned (.int .u32 (sumS l))/\w=w':=by
 by_cases h0:l.length=0
 · obtain ⟨ao,cap,rfl,_⟩:=hs.shape
   obtain rfl:l=[]:=List.eq_nil_of_length_eq_zero h0
   exact pSum_zero
 · rcases hs.2 with ⟨_,rfl⟩| ⟨⟨b,off,spot⟩,cap,rfl,_,hc⟩
   · simp at h0
   · obtain rfl:spot=none:=(hc 0 (by omega)).2.1
     exact pSum_some hl hs.1 fun j hj=>(hc j hj).2.2
theorem rSum_some {w:World}{b off cap:Nat}{l:List Int} (hl:l.length<=140737488355300) (hby:Byt l)
 (hc:∀ j,j<l.length->w.cell? ⟨b,off+j,none⟩=some (.int .u8 (l.getD j 0))):
 Calls Tryz.prog 168 #[.slice (some ⟨b,off,none⟩) l.length cap] w fun e w'=>e=.returned (.int .u32 (sumS l))/\w=w':=by
 obtain ⟨N,hN⟩:∃ N,N=l.length:=⟨_,rfl⟩
 rw[<- hN] at hl hc |-
 have HN:=Lib.hid hN
 have HC:=Lib.hid hc
 have HBY:=Lib.hid hby
 clear hN hc hby
 go_enter Tryz.func168,Tryz.ntmps168
 go_wp2_with fail
 go_loop [3,7] (fun c i=>∃ (j:Nat) (m:Int),j<=N/\i=.int .i64 j/\c=.int .u32 m/\0<=m/\m<4294967296/\Hid (m=sumS (l.take j))) (fun _ i=>N-(intOf i).toNat)
 case atStart=>exact ⟨0,_,by omega,rfl,rfl,by omega,by omega,rfl⟩
 case round=>
  obtain ⟨j,m,hj,rfl,rfl,hm0,hm1,HM⟩:=hrel
  by_cases hlt:j<N
  · have hx:=HBY.out j
    have hcx:=HC.out j hlt
    obtain ⟨x,hx'⟩:∃ x,x=l.getD j 0:=⟨_,rfl⟩
    rw[<- hx'] at hx hcx
    have HX:=Lib.hid hx'
    clear hx'
    go_wp2_with fail
    go_round
    case rel=>
     refine ⟨j+1,_,by omega,by go_num,rfl,(fnvStep_bound m x).1,(fnvStep_bound m x).2,?_⟩
     show _=_
     rw[sumS_take l j (by have:=HN.out;omega),<- HM.out,<- HX.out];rfl
    case measure=>simp[intOf];omega
  · go_wp2_with fail
    go_ret
    exact ⟨ret_int (by rw[HM.out,List.take_of_length_le (by have:=HN.out;omega)]),rfl⟩
theorem rSum_zero {w:World}{ao:Option Addr}{cap:Nat}:
 Calls Tryz.prog 168 #[.slice ao 0 cap] w fun e w'=>e=.returned (.int .u32 (sumS []))/\w=w':=by
 go_enter Tryz.func168,Tryz.ntmps168
 go_wp2_with fail
 refine wp_loop_rounds 1 ?_
 rw[rounds_succ]
 go_wp2_with fail
 go_ret
 exact ⟨rfl,rfl⟩
theorem rSum_any {w:World}{v:Value}{l:List Int} (hs:BSl w v l) (hl:l.length<=140737488355300):
 Calls Tryz.prog 168 #[v] w fun e w'=>e=.returned (.int .u32 (sumS l))/\w=w':=by
 by_cases h0:l.length=0
 · obtain ⟨ao,cap,rfl,_⟩:=hs.shape
   obtain rfl:l=[]:=List.eq_nil_of_length_eq_zero h0
   exact rSum_zero
 · rcases hs.2 with ⟨_,rfl⟩| ⟨⟨b,off,spot⟩,cap,rfl,_,hc⟩
   · simp at h0
   · obtain rfl:spot=none:=(hc 0 (by omega)).2.1
     exact rSum_some hl hs.1 fun j hj=>(hc j hj).2.2
def getN (l:List Int) (a k:Int):Int:=if 1<=k/\k<=8/\0<=a/\a+k<=l.length then getV l a.toNat k.toNat else 0
def gotB (l:List Int) (a k:Int):Bool:=decide (1<=k/\k<=8/\0<=a/\a+k<=l.length)
theorem pGet_any {w:World}{v:Value}{l:List Int} (hs:BSl w v l) (hl:l.length<=140737488355300) (a k:Int) (h0: -9223372036854775808<=a) (h1:a<=9223372036854775807):
 Calls Tryz.prog 144 #[v,.int .i64 a,.int .i64 k] w fun e w'=>e=.returned (.tuple #[.int .u64 (getN l a k),.bool (gotB l a k)])/\w=w':=by
 by_cases h:1<=k/\k<=8/\0<=a/\a+k<=l.length
 · rcases hs.2 with ⟨_,rfl⟩| ⟨⟨b,off,spot⟩,cap,rfl,_,hc⟩
   · simp at h;omega
   · obtain rfl:spot=none:=(hc 0 (by omega)).2.1
     have:=pGet_at (cap:=cap) hs.1 hl (fun j hj=>(hc j hj).2.2) a.toNat k.toNat (by omega) (by omega) (by omega)
     rw[show ((a.toNat:Nat):Int)=a by omega,show ((k.toNat:Nat):Int)=k by omega] at this
     simp only[getN,gotB,if_pos h,decide_eq_true h]
     exact this
 · obtain ⟨ao,cap,rfl,_⟩:=hs.shape
   simp only[getN,gotB,if_neg h,decide_eq_false h]
   exact pGet_no hl a k h0 h1 h
theorem rPut_at {w:World}{v:Value}{l:List Int} (hs:BSl w v l) (hl:l.length<=140737488355300) (n size:Int) (k:Nat) (hk:k<=8) (hk1:1<=k) (hsz:size=k) (h0:0<=n) (h1:n<18446744073709551616):
 Calls Tryz.prog 127 #[v,.int .u64 n,.int .i64 size] w (NewB w (l ++ lowB n k)):=by
 subst hsz
 obtain ⟨ao,cap,hv,_⟩:=hs.shape
 have hlen:([]:List Int).length+l.length<=140737488355328:=by simp;omega
 obtain ⟨N,hN⟩:∃ N,N=l.length:=⟨_,rfl⟩
 rw[<- hN] at hv hl
 subst hv
 have HS:=Lib.hid hs
 have HL:=Lib.hid hlen
 have HN:=Lib.hid hN
 clear hs hlen hN
 go_enter Tryz.func127,Tryz.ntmps127
 go_wp2_with (at_builtin;refine wpList_append_bytes _ rfl _ _ rfl w.heap.size _ [] rfl (ob_empty w) w _ l rfl HS.out (fun p hp=>World.cell?_alloc_lt w _ p hp) HL.out (by simp) ?_;intro v2 w2 hob2 hb2 _)
 have hbe:Below w.heap.size w w2:=((Below.refl _ _).alloc (Nat.le_refl _) _).trans hb2
 rw[List.nil_append] at hob2
 clear hb2
 go_loopw [7,20] (fun u i wr=>∃ j:Nat,j<=k/\i=.int .i64 j/\Hid (OB wr w.heap.size u (l ++ lowB n j))/\Below w.heap.size w wr)
  (fun _ i _=>k-(intOf i).toNat)
 case atStart=>exact ⟨0,by omega,rfl,by simp[Hid,lowB_zero];exact hob2,hbe⟩
 case round=>
  obtain ⟨j,hj,rfl,HO,hbr⟩:=hrel
  by_cases hlt:j<k
  · have hlen:(l ++ lowB n j).length+1<=140737488355328:=by rw[List.length_append,lowB_length,<- HN.out];omega
    have HLE:=Lib.hid hlen
    have hx0:0<=n / 2 ^ (8*j)%256/\n / 2 ^ (8*j)%256<=255:=by omega
    clear hlen
    go_wp2_with (at_builtin;refine wpList_append_byte wr _ rfl _ _ rfl w.heap.size _ _ rfl HO.out hx0 rfl HLE.out hbr.size ?_;intro v' w3 hob3 hb3)
    go_roundw
    case rel=>
     refine ⟨j+1,by omega,by go_num,?_,hbr.trans hb3⟩
     show OB _ _ _ _
     rw[lowB_succ,<- List.append_assoc];exact hob3
    case measure=>simp[intOf];omega
  · go_wp2_with fail
    go_ret
    obtain rfl:j=k:=by omega
    exact ⟨_,rfl,HO.out,hbr⟩
end Go.Proofs.YtedabomlfcghoaaGreat
namespace Go.Proofs.YtedabomlfcghoaaGreat
set_option maxRecDepth 100000
open Go.RowKit
theorem zeroCells_u8 (m:Nat):Builtin.zeroCells (Value.int .u8 0).cells m=Array.replicate m (.int .u8 0):=by
 apply Array.ext
 · simp[Builtin.zeroCells,Value.cells]
 · intro j h1 h2
   simp[Builtin.zeroCells,Value.cells,Nat.mod_one]
theorem wrap_zero:IntKind.i64.wrap 0=0:=by decide
theorem run_append_zeros (w:World) (B:Nat) (ty:TypeId) (v:Value) (n:Nat) (xs:List Value) (hown:w.ownsRow B 5 1 v n xs) (m:Nat) (hlen:n+m<=140737488355328) (hB:B<=w.heap.size):
 ∃ v' w',(Builtin.append_ #[30,3] ty #[v,.int .i64 m]).run Tryz.prog w=.ok v' w'/\w'.ownsRow B 5 1 v' (n+m) (xs ++ List.replicate m (.int .u8 0))/\w.grownBy w' v.ownBlock:=by
 obtain ⟨i,h2,h3,h4,h5⟩:=info_parts infoU8
 have hxl:xs.length=n:=by simpa using hown.1
 have hm1:IntKind.i64.wrap (m:Int)=m:=by rw[IntKind.wrap_i64];omega
 have hm2:¬ (m:Int)<0:=by omega
 have hm3:¬ 281474976710656<(m:Int):=by omega
 have hlen2:(xs ++ List.replicate m (Value.int .u8 0)).length=(n+m)*1:=by simp[hxl]
 have grown:∀ (old:Nat),old<n+m->∀ (row:Option Nat),
  (w.drew.alloc (.cells (xs.toArray ++ Array.replicate m (.int .u8 0) ++ Array.replicate (grownCap w (n+m) old 5-(n+m)) (.int .u8 0)) 5)).ownsRow B 5 1
    (.slice (some ⟨w.heap.size,0,none⟩) (n+m) (grownCap w (n+m) old 5)) (n+m) (xs ++ List.replicate m (.int .u8 0))/\
  w.grownBy (w.drew.alloc (.cells (xs.toArray ++ Array.replicate m (.int .u8 0) ++ Array.replicate (grownCap w (n+m) old 5-(n+m)) (.int .u8 0)) 5)) row:=by
  intro old ho row
  have hge:=grownCap_ge w (n+m) old 5
  have hcm:grownCap w (n+m) old 5<=maxLen:=grownCap_le_maxLen w (n+m) old 5 (by simp only[maxLen];omega)
  refine ⟨⟨hlen2,.inr ⟨w.heap.size,_,_,rfl,hB,heap_alloc_new w.drew _,hge,hcm,?_,?_⟩⟩,⟨rfl,rfl,rfl,by simp,fun k hk _=>@Go.heap_alloc_old w.drew _ _ hk⟩⟩
  · simp[hxl];omega
  · simp only[Array.toList_append,Array.toList_replicate]
    rw[<- hlen2,List.take_left']
    · rfl
 have hz:(if m=0 then (pure #[]:Sem (Array Value)) else pure (Builtin.zeroCells (Value.int .u8 0).cells m))=pure (Array.replicate m (.int .u8 0)):=by
  by_cases h0:m=0
  · subst h0;simp
  · rw[if_neg h0,zeroCells_u8]
 rcases hown.2 with ⟨rfl,rfl⟩| ⟨g,cap,cur,rfl,hbg,hg,hnc,hcm,hcs,htake⟩
 · obtain rfl:xs=[]:=List.eq_nil_of_length_eq_zero hxl
   by_cases hm:m=0
   · subst hm
     refine ⟨.slice none 0 0,w,?_,World.ownsRow_nil w B 5 1,⟨rfl,rfl,rfl,Nat.le_refl _,fun _ _ _=>rfl⟩⟩
     simp[Builtin.append_,run_underlying Tryz.underlying30,run_underlying Tryz.underlying3,sizeOf,typeInfo,h2,h5,asInt,asIntOf,wrap_zero]
   · have hgr:=grown 0 (by omega) (Value.ownBlock (.slice none 0 0))
     have h48:¬ (281474976710656<Builtin.nextslicecap m 0*1):=by rw[nextslicecap_zero (by omega)];omega
     simp only[Nat.zero_add,List.nil_append] at hgr |-
     refine ⟨_,_,?_,hgr.1,hgr.2⟩
     have hc1:¬ 9223372036854775807<(m:Int):=by omega
     simp only[Nat.mul_one] at h48
     simp[Builtin.append_,run_underlying Tryz.underlying30,run_underlying Tryz.underlying3,sizeOf,typeInfo,zeroValue,h2,h3,h4,h5,asInt,asIntOf,hm1,hm2,hm3,hm,hc1,h48,Question.forced,run_firstCells_none,newRow,grownCap]
     simp[zeroCells_u8]
 · by_cases hroom:n+m<=cap
   · have hst:=run_storeCells_at Tryz.prog g n 5 (List.replicate m (Value.int .u8 0)) 0 cur w hg (by simp;omega) (fun u hu=>by rw[List.eq_of_mem_replicate hu];rfl)
     refine ⟨_,w.setRow g (cur.toList.take n ++ List.replicate m (Value.int .u8 0) ++ cur.toList.drop (n+m)).toArray,?_,⟨hlen2,.inr ⟨g,cap,_,rfl,hbg,setRow_heap w g cur _ 5 _ hg,hroom,hcm,?_,?_⟩⟩,⟨rfl,rfl,rfl,by simp,fun k _ hk=>setRow_other w g k _ (fun e=>hk (by simp[Value.ownBlock,e]))⟩⟩
     · by_cases hm:m=0
       · subst hm
         simp[Builtin.append_,run_underlying Tryz.underlying30,run_underlying Tryz.underlying3,sizeOf,typeInfo,h2,h5,asInt,asIntOf,wrap_zero,hnc,storeCells]
         exact (setRow_self w g cur 5 (0,0) hg).symm
       · simp[Builtin.append_,run_underlying Tryz.underlying30,run_underlying Tryz.underlying3,sizeOf,typeInfo,zeroValue,h2,h3,h4,h5,asInt,asIntOf,hm1,hm2,hm3,hm,hroom]
         rw[zeroCells_u8,Array.toList_replicate,Addr.add_lit,Nat.zero_add,hst]
         simp
     · simp;omega
     · have ht:cur.toList.take n=xs:=by simpa using htake
       rw[ht,<- hlen2,List.take_left' rfl]
   · have hgr:=grown cap (by omega) (Value.ownBlock (.slice (some ⟨g,0,none⟩) n cap))
     refine ⟨_,_,?_,hgr.1,hgr.2⟩
     have hn:¬ (n+m<=cap):=hroom
     have hm0:m≠0:=by omega
     have h63':¬ (9223372036854775807<((n:Int)+(m:Int))):=by omega
     have h48:=growslice_fits (bytes:=1) (show cap<n+m by omega) (by omega)
     have h48':¬ (281474976710656<Builtin.nextslicecap (n+m) cap):=by omega
     have hfo:=run_firstCells_some (P:=Tryz.prog) w.drew 1 n ⟨g,0,none⟩ n cap xs (by simpa using hxl) (by
      have hc:w.ownsRow B 5 1 (.slice (some ⟨g,0,none⟩) n cap) n xs:=hown
      exact hc.cells (g:=g) rfl)
     simp[Builtin.append_,run_underlying Tryz.underlying30,run_underlying Tryz.underlying3,sizeOf,typeInfo,zeroValue,h2,h3,h4,h5,asInt,asIntOf,hm1,hm2,hm3,hm0,hn,h63',h48',Question.forced,hfo,newRow,grownCap,zeroCells_u8]
theorem wpList_append_zeros (w:World) {ops:Array Oper}{rest:List Oper}{o:Oper}{a:Act}{Q:Exit->Act->World->Prop} (hgd:o.guard=none) (s x:Operand)
 (ho:o.op=.call { callee:=.builtin .append,args:=#[s,x],argTypes:=#[30,3] })
 (B:Nat) (v:Value) (l:List Int) (hs:a.eval s=v) (hown:OB w B v l) (C:Int) (m:Nat) (hx:a.eval x=.int .i64 C) (hC:C=m) (hlen:l.length+m<=140737488355328) (hB:B<=w.heap.size)
 (h:∀ v' w',OB w' B v' (l ++ List.replicate m 0)->Below B w w'->wpList Tryz.prog ops Q rest (a.put o.dst v') w'):wpList Tryz.prog ops Q (o :: rest) a w:=by
 subst hC
 obtain ⟨v',w',hr,h2,h3⟩:=run_append_zeros w B o.type v l.length _ hown.2 m hlen hB
 refine wpList_plain hgd fun K hK=>?_
 unfold Oper.wp execOp
 simp only[ho,resolve,invoke,builtin,Sem.run_bind,Sem.run_pure,Result.andThen_ok,List.map_toArray,List.map_cons,List.map_nil,hs,hx,hr]
 refine hK _ _ (h v' w' ⟨byt_append hown.1 (byt_replicate m),?_⟩ ((Below.refl _ _).grown h3 hB fun k hk=>(hown.2.lt k hk).1))
 simpa using h2
end Go.Proofs.YtedabomlfcghoaaGreat
namespace Go.Proofs.YtedabomlfcghoaaGreat
set_option maxRecDepth 100000
open Go.RowKit
def SealOut (l:List Int) (w:World) (e:Ending) (w':World):Prop:=
 ∃ v,e=.returned (.tuple #[v,.int .i64 0])/\OB w' w.heap.size v (sealS l)/\Below w.heap.size w w'
theorem pSum_c {w0 w:World}{v:Value}{l:List Int} (hs:BSl w0 v l) (hk:Below w0.heap.size w0 w) (hl:l.length<=140737488355300) (S:Int) (hS:S=sumS l):
 Calls Tryz.prog 186 #[v] w fun e w'=>e=.returned (.int .u32 S)/\w=w':=by rw[hS];exact pSum_any (hs.below hk) hl
theorem pPut4 {w:World}{v:Value}{l:List Int} (hs:BSl w v l) (hl:l.length=252) (S:Int) (hS:S=sumS l):
 Calls Tryz.prog 177 #[v,.int .u64 S,.int .i64 4] w (NewB w (l ++ lowB (sumS l) 4)):=by
 have hb:=sumS_bound l
 rw[hS]
 exact pPut_at hs (by omega) _ 4 4 (by omega) (by omega) rfl hb.1 (by omega)
theorem rPut4 {w:World}{v:Value}{l:List Int} (hs:BSl w v l) (hl:l.length=252) (S:Int) (hS:S=sumS l):
 Calls Tryz.prog 127 #[v,.int .u64 S,.int .i64 4] w (NewB w (l ++ lowB (sumS l) 4)):=by
 have hb:=sumS_bound l
 rw[hS]
 exact rPut_at hs (by omega) _ 4 4 (by omega) (by omega) rfl hb.1 (by omega)
theorem pSeal_yes {w:World}{v:Value}{l:List Int} (hs:BSl w v l) (hl:l.length<=252):Calls Tryz.prog 184 #[v] w (SealOut l w):=by
 obtain ⟨ao,cap,rfl,hcap⟩:=hs.shape
 obtain ⟨M,hMM⟩:∃ M:Nat,M=252:=⟨_,rfl⟩
 have hMI:(252:Int)=(M:Int):=by omega
 have hby:=hs.1
 have hpos:=src_cells hs (w1:=w.alloc (.cells (Array.replicate M (.int .u8 0)) 5)) (fun p hp=>World.cell?_alloc_lt w _ p hp) l.length
 rw[List.take_length] at hpos
 have hf1:=fillS_length l hl
 obtain ⟨F,hF⟩:∃ F,F=fillS l:=⟨_,rfl⟩
 obtain ⟨S,hS⟩:∃ S,S=sumS F:=⟨_,rfl⟩
 have hSb:=sumS_bound F
 rw[<- hS] at hSb
 have hFs:sealS l=F ++ lowB (sumS F) 4:=by rw[hF];rfl
 rw[<- hF] at hf1
 obtain ⟨N,hN⟩:∃ N,N=l.length:=⟨_,rfl⟩
 rw[<- hN] at hl hcap |-
 have hg2:(w.alloc (.cells (Array.replicate M (.int .u8 0)) 5)).heap[w.heap.size]? =some (.cells (List.replicate M (Value.int .u8 0)).toArray 5 (0,0)):=by
  rw[heap_alloc_new];simp
 have hcl:(l.map (Value.int .u8)).length=N:=by rw[List.length_map,<- hN]
 have hmm:N=Nat.min N M:=(Nat.min_eq_left (by omega)).symm
 have hfit:0+(l.map (Value.int .u8)).length<=(List.replicate M (Value.int .u8 0)).length:=by rw[List.length_map,<- hN,hMM];rw[List.length_replicate];omega
 have HN:=Lib.hid hN
 have HMM:=Lib.hid hMM
 have HMI:=Lib.hid hMI
 have hMle:M<=200000000000000:=by omega
 have hNM:N<=M:=by omega
 have HG:=Lib.hid hg2
 have HC:=Lib.hid hcl
 have HM:=Lib.hid hmm
 have HF:=Lib.hid hfit
 have HP:=Lib.hid hpos
 have HBY:=Lib.hid hby
 have HFF:=Lib.hid hF
 have HSS:=Lib.hid hS
 have HF1:=Lib.hid hf1
 have HFS:=Lib.hid hFs
 have hbl:Below w.heap.size w (w.alloc (.cells (Array.replicate M (.int .u8 0)) 5)):=(Below.refl _ _).alloc (Nat.le_refl _) _
 clear hN hg2 hcl hmm hfit hpos hby hs hF hS hf1 hFs hMM hMI
 go_enter Tryz.func184,Tryz.ntmps184
 go_wp2_with (first
  |(at_make;refine wpList_make_u8 _ rfl _ _ rfl _ M rfl rfl HMI.out hMle ?_)
  |(with_reducible refine wpList_copy_wrote rfl _ _ 30 30 rfl 5 Tryz.underlying30 (by kernel_rfl) _ _ _ _ _ _ rfl rfl w.heap.size 0 (List.replicate M (Value.int .u8 0)) 5 HG.out (l.map (Value.int .u8)) N HC.out HM.out (fun h=>⟨rfl,HP.out h⟩) HF.out (ints_oneCell _ _) ?_
    intro w2 HG3 HW2
    have hb2:Below w.heap.size w w2:=hbl.trans (HW2.below (Nat.le_refl _))
    have hob:OB w2 w.heap.size (.slice (some ⟨w.heap.size,0,none⟩) M M) F:=by
     have h3:=HG3.out
     have h4:splice (List.replicate M (Value.int .u8 0)) 0 (l.map (Value.int .u8))=F.map (Value.int .u8) ++ []:=by
      rw[HFF.out,fillS,HMM.out.symm];simp[splice,<- HN.out]
     rw[h4] at h3
     have h5:=OB.of_heap (cap:=M) (rest:=[]) (l:=F) (B:=w.heap.size) (by rw[HFF.out];exact byt_append HBY.out (byt_replicate _)) (Nat.le_refl _) h3 (by rw[HF1.out,HMM.out];rfl) (by rw[HMM.out];decide)
     rw[HF1.out,<- HMM.out] at h5;exact h5
    clear HG3 HW2)
  |(go_at_call 186;refine (pSum_c hob.bsl (Below.refl _ _) (by rw[HF1.out];omega) S HSS.out).mono ?_;rintro e w' ⟨rfl,rfl⟩)
  |(go_at_call 177;refine (pPut4 hob.bsl HF1.out S HSS.out).mono ?_;rintro e w3 ⟨v3,rfl,hob3,hb3⟩))
 go_ret2
 refine ⟨v3,rfl,?_,hb2.trans (hb3.mono hb2.size)⟩
 rw[HFS.out];exact hob3.more hb2.size
theorem rSeal_yes {w:World}{v:Value}{l:List Int} (hs:BSl w v l) (hl:l.length<=252):Calls Tryz.prog 129 #[v] w (SealOut l w):=by
 obtain ⟨ao,cap,hv,hcap⟩:=hs.shape
 have hf1:=fillS_length l hl
 obtain ⟨F,hF⟩:∃ F,F=fillS l:=⟨_,rfl⟩
 obtain ⟨S,hS⟩:∃ S,S=sumS F:=⟨_,rfl⟩
 have hSb:=sumS_bound F
 rw[<- hS] at hSb
 have hFs:sealS l=F ++ lowB (sumS F) 4:=by rw[hF];rfl
 rw[<- hF] at hf1
 have hlen:([]:List Int).length+l.length<=140737488355328:=by simp;omega
 obtain ⟨N,hN⟩:∃ N,N=l.length:=⟨_,rfl⟩
 rw[<- hN] at hl hv
 subst hv
 have HN:=Lib.hid hN
 have HS:=Lib.hid hs
 have HL:=Lib.hid hlen
 have HFF:=Lib.hid hF
 have HSS:=Lib.hid hS
 have HF1:=Lib.hid hf1
 have HFS:=Lib.hid hFs
 have hsub:(252:Int)-N=((252-N:Nat):Int):=by omega
 have HSU:=Lib.hid hsub
 clear hN hs hF hS hf1 hFs hlen hsub
 go_enter Tryz.func129,Tryz.ntmps129
 go_wp2_with (first
  |(at_builtin;(refine wpList_append_bytes _ rfl (.tmp 8) (.tmp 9) rfl w.heap.size _ [] rfl (ob_empty w) w _ l rfl HS.out (fun p hp=>World.cell?_alloc_lt w _ p hp) HL.out (by simp) ?_);intro v2 w2 hob2 hb2 _;rw[List.nil_append] at hob2
    have hbe:Below w.heap.size w w2:=((Below.refl _ _).alloc (Nat.le_refl _) _).trans hb2)
  |(at_builtin;(refine wpList_append_zeros _ rfl (.tmp 10) (.tmp 13) rfl w.heap.size _ l rfl hob2 _ (252-N) rfl HSU.out (by rw[<- HN.out];omega) hbe.size ?_);intro v3 w3 hob3 hb3
    have hbf:Below w.heap.size w w3:=hbe.trans hb3
    rw[HN.out,show l ++ List.replicate (252-l.length) 0=fillS l from rfl,<- HFF.out] at hob3)
  |(go_at_call 168;refine (rSum_any hob3.bsl (by rw[HF1.out];omega)).mono ?_;rw[<- HSS.out];rintro e w' ⟨rfl,rfl⟩)
  |(go_at_call 127;refine (rPut4 hob3.bsl HF1.out S HSS.out).mono ?_;rintro e w4 ⟨v4,rfl,hob4,hb4⟩))
 go_ret2
 refine ⟨v4,rfl,?_,hbf.trans (hb4.mono hbf.size)⟩
 rw[HFS.out];exact hob4.more hbf.size
theorem BSl.take {w:World}{a:Addr}{cap:Nat}{l:List Int} (h:BSl w (.slice (some a) l.length cap) l) (n:Nat) (hn:n<=l.length):BSl w (.slice (some a) n cap) (l.take n):=by
 refine ⟨byt_take h.1 n,.inr ⟨a,cap,by rw[List.length_take,Nat.min_eq_left hn],?_,fun j hj=>?_⟩⟩
 · rcases h.2 with ⟨hv,_⟩| ⟨_,_,hv,hc,_⟩
   · simp at hv
   · obtain ⟨_,rfl⟩:_/\_:=by simpa using hv
     rw[List.length_take];omega
 · rw[List.length_take,Nat.min_eq_left hn] at hj
   rcases h.2 with ⟨hv,_⟩| ⟨a',c',hv,_,hc⟩
   · simp at hv
   · obtain ⟨rfl,rfl⟩:a=a'/\cap=c':=by simpa using hv
     obtain ⟨h1,h2,h3⟩:=hc j (by omega)
     exact ⟨h1,h2,by rw[h3];simp[List.getD_eq_getElem?_getD,hj]⟩
def OpenOut (l:List Int) (w:World) (e:Ending) (w':World):Prop:=
 (sealed l/\∃ v,e=.returned (.tuple #[v,.bool true])/\OB w' w.heap.size v (l.take 252)/\Below w.heap.size w w')\/
 (¬ sealed l/\e=.returned (.tuple #[.slice none 0 0,.bool false])/\Below w.heap.size w w')
theorem pOpen_len {w:World}{ao:Option Addr}{len cap:Nat} (h:len≠256):
 Calls Tryz.prog 150 #[.slice ao len cap] w fun e w'=>e=.returned (.tuple #[.slice none 0 0,.bool false])/\w=w':=by
 have hne:((len:Int) != 256)=true:=by simp;omega
 go_enter Tryz.func150,Tryz.ntmps150
 go_wp2_with fail
 go_ret2
 exact ⟨rfl,rfl⟩
theorem pGet4 {w:World}{b off cap:Nat}{l:List Int} (hs:BSl w (.slice (some ⟨b,off,none⟩) 256 cap) l) (hl:l.length=256) (G:Int) (hG:G=getV l 252 4):
 Calls Tryz.prog 144 #[.slice (some ⟨b,off,none⟩) 256 cap,.int .i64 252,.int .i64 4] w fun e w'=>e=.returned (.tuple #[.int .u64 G,.bool true])/\w=w':=by
 rcases hs.2 with ⟨hv,_⟩| ⟨a',c',hv,_,hc⟩
 · simp at hv
 · obtain ⟨rfl,_,rfl⟩:_/\_/\_:=by simpa using hv
   have:=pGet_at (w:=w) (b:=b) (off:=off) (cap:=cap) hs.1 (by omega) (fun j hj=>(hc j hj).2.2) 252 4 (by omega) (by omega) (by omega)
   rw[hl] at this
   rw[hG];exact this
theorem pOpen_no {w:World}{b off cap:Nat}{l:List Int} (hs:BSl w (.slice (some ⟨b,off,none⟩) 256 cap) l) (hl:l.length=256) (hcap:256<=cap) (hne:getV l 252 4≠sumS (l.take 252)):
 Calls Tryz.prog 150 #[.slice (some ⟨b,off,none⟩) 256 cap] w fun e w'=>e=.returned (.tuple #[.slice none 0 0,.bool false])/\w=w':=by
 have ht:BSl w (.slice (some ⟨b,off,none⟩) 252 cap) (l.take 252):=BSl.take (by rw[hl];exact hs) 252 (by omega)
 have hbd:=getV_bound (byt_mem hs.1) 252 4
 have hSb:=sumS_bound (l.take 252)
 have htl:(l.take 252).length<=140737488355300:=by rw[List.length_take];omega
 obtain ⟨G,hG⟩:∃ G,G=getV l 252 4:=⟨_,rfl⟩
 obtain ⟨S,hS⟩:∃ S,S=sumS (l.take 252):=⟨_,rfl⟩
 rw[<- hG] at hbd hne
 rw[<- hS] at hSb hne
 have hne':(G != S)=true:=by simpa using hne
 have hG1:G<4294967296:=by simpa using hbd.2
 have hG0:=hbd.1
 have HS:=Lib.hid hs
 have HT:=Lib.hid ht
 have HG:=Lib.hid hG
 have HSS:=Lib.hid hS
 have HL:=Lib.hid hl
 have HTL:=Lib.hid htl
 clear hs ht hG hS hl htl hbd
 go_enter Tryz.func150,Tryz.ntmps150
 go_wp2_with (first
  |(go_at_call 144;refine (pGet4 HS.out HL.out G HG.out).mono ?_;rintro e w' ⟨rfl,rfl⟩)
  |(go_at_call 186;refine (pSum_c HT.out (Below.refl _ _) HTL.out S HSS.out).mono ?_;rintro e w' ⟨rfl,rfl⟩))
 go_ret2
 exact ⟨rfl,rfl⟩
theorem pOpen_yes {w:World}{b off cap:Nat}{l:List Int} (hs:BSl w (.slice (some ⟨b,off,none⟩) 256 cap) l) (hl:l.length=256) (hcap:256<=cap) (heq:getV l 252 4=sumS (l.take 252)):
 Calls Tryz.prog 150 #[.slice (some ⟨b,off,none⟩) 256 cap] w fun e w'=>∃ v,e=.returned (.tuple #[v,.bool true])/\OB w' w.heap.size v (l.take 252)/\Below w.heap.size w w':=by
 have ht:BSl w (.slice (some ⟨b,off,none⟩) 252 cap) (l.take 252):=BSl.take (by rw[hl];exact hs) 252 (by omega)
 have hSb:=sumS_bound (l.take 252)
 have htl:(l.take 252).length=252:=by rw[List.length_take];omega
 obtain ⟨S,hS⟩:∃ S,S=sumS (l.take 252):=⟨_,rfl⟩
 have hG:S=getV l 252 4:=by rw[hS,heq]
 rw[<- hS] at hSb
 obtain ⟨M,hMM⟩:∃ M:Nat,M=252:=⟨_,rfl⟩
 have hMI:(252:Int)=(M:Int):=by omega
 have hpos:=src_cells hs (w1:=w.alloc (.cells (Array.replicate M (.int .u8 0)) 5)) (fun p hp=>World.cell?_alloc_lt w _ p hp) 252
 have hg2:(w.alloc (.cells (Array.replicate M (.int .u8 0)) 5)).heap[w.heap.size]? =some (.cells (List.replicate M (Value.int .u8 0)).toArray 5 (0,0)):=by
  rw[heap_alloc_new];simp
 have hcl:((l.take 252).map (Value.int .u8)).length=M:=by rw[List.length_map,htl,hMM]
 have hmm:M=Nat.min 256 M:=(Nat.min_eq_right (by omega)).symm
 have hfit:0+((l.take 252).map (Value.int .u8)).length<=(List.replicate M (Value.int .u8 0)).length:=by rw[List.length_map,htl,List.length_replicate];omega
 have hbl:Below w.heap.size w (w.alloc (.cells (Array.replicate M (.int .u8 0)) 5)):=(Below.refl _ _).alloc (Nat.le_refl _) _
 have HMM:=Lib.hid hMM
 have HMI:=Lib.hid hMI
 have hMle:M<=200000000000000:=by omega
 have HS:=Lib.hid hs
 have HT:=Lib.hid ht
 have HG:=Lib.hid hG
 have HSS:=Lib.hid hS
 have HL:=Lib.hid hl
 have HTL:=Lib.hid htl
 have HP:=Lib.hid hpos
 have HG2:=Lib.hid hg2
 have HC:=Lib.hid hcl
 have HM:=Lib.hid hmm
 have HF:=Lib.hid hfit
 clear hs ht hG hS hl htl heq hpos hg2 hcl hmm hfit hMM hMI
 go_enter Tryz.func150,Tryz.ntmps150
 go_wp2_with (first
  |(go_at_call 144;refine (pGet4 HS.out HL.out S HG.out).mono ?_;rintro e w' ⟨rfl,rfl⟩)
  |(go_at_call 186;refine (pSum_c HT.out (Below.refl _ _) (by rw[HTL.out];omega) S HSS.out).mono ?_;rintro e w' ⟨rfl,rfl⟩)
  |(at_make;refine wpList_make_u8 _ rfl _ _ rfl _ M rfl rfl HMI.out hMle ?_)
  |(with_reducible refine wpList_copy_wrote rfl _ _ 30 30 rfl 5 Tryz.underlying30 (by kernel_rfl) _ _ _ _ _ _ rfl rfl w.heap.size 0 (List.replicate M (Value.int .u8 0)) 5 HG2.out ((l.take 252).map (Value.int .u8)) M HC.out HM.out (fun h=>⟨rfl,HP.out h⟩) HF.out (ints_oneCell _ _) ?_
    intro w2 HG3 HW2))
 go_ret2
 refine ⟨_,rfl,?_,hbl.trans (HW2.below (Nat.le_refl _))⟩
 have h3:=HG3.out
 rw[splice_whole _ _ (by rw[HC.out,List.length_replicate])] at h3
 have h5:=OB.of_heap (cap:=M) (rest:=[]) (l:=l.take 252) (B:=w.heap.size) (byt_take HS.out.1 _) (Nat.le_refl _) (by rw[List.append_nil];exact h3) (by rw[HTL.out,HMM.out];rfl) (by rw[HMM.out];decide)
 have e:(l.take 252).length=M:=by rw[HTL.out,HMM.out]
 rw[e] at h5;exact h5
theorem pOpen_any {w:World}{v:Value}{l:List Int} (hs:BSl w v l):Calls Tryz.prog 150 #[v] w (OpenOut l w):=by
 by_cases hl:l.length=256
 · rcases hs.2 with ⟨_,rfl⟩| ⟨⟨b,off,spot⟩,cap,rfl,hcap,hc⟩
   · simp at hl
   · obtain rfl:spot=none:=(hc 0 (by omega)).2.1
     rw[hl] at hs hcap |-
     by_cases h:getV l 252 4=sumS (l.take 252)
     · exact (pOpen_yes hs hl hcap h).mono fun e w' ⟨v,h1,h2,h3⟩=>.inl ⟨⟨hl,h⟩,v,h1,h2,h3⟩
     · exact (pOpen_no hs hl hcap h).mono fun e w' ⟨h1,h2⟩=>.inr ⟨fun hh=>h hh.2,h1,by rw[<- h2];exact Below.refl _ _⟩
 · obtain ⟨ao,cap,rfl,_⟩:=hs.shape
   exact (pOpen_len hl).mono fun e w' ⟨h1,h2⟩=>.inr ⟨fun hh=>hl hh.1,h1,by rw[<- h2];exact Below.refl _ _⟩
theorem pOpen_not {w:World}{v:Value}{l:List Int} (hs:BSl w v l) (h:¬ sealed l):Calls Tryz.prog 150 #[v] w fun e w'=>e=.returned (.tuple #[.slice none 0 0,.bool false])/\Below w.heap.size w w':=
 (pOpen_any hs).mono fun e w' ho=>ho.elim (fun h1=>absurd h1.1 h) fun h1=>h1.2
theorem pOpen_is {w:World}{v:Value}{l:List Int} (hs:BSl w v l) (h:sealed l):Calls Tryz.prog 150 #[v] w fun e w'=>∃ v,e=.returned (.tuple #[v,.bool true])/\OB w' w.heap.size v (l.take 252)/\Below w.heap.size w w':=
 (pOpen_any hs).mono fun e w' ho=>ho.elim (fun h1=>h1.2) fun h1=>absurd h h1.1
theorem take_len {l:List Int} (h:sealed l):(l.take 252).length=252:=by
 have:=h.1
 rw[List.length_take];omega
end Go.Proofs.YtedabomlfcghoaaGreat
namespace Go.Proofs.YtedabomlfcghoaaGreat
set_option maxRecDepth 100000
open Go.RowKit BM
theorem pPut_nil (x:Int) (h0:0<=x) (h1:x<=65535) (w:World):Calls Tryz.prog 177 #[.slice none 0 0,.int .u64 x,.int .i64 2] w (NewB w (lowB x 2)):=
 pPut_at (bsl_nil w) (by simp) x 2 2 (by omega) (by omega) rfl h0 (by omega)
theorem pageK_succ' (O:List (Int × Int)) (k:Nat) (x y:Int) (hx:x=(O.getD k (0,0)).1) (hy:y=(O.getD k (0,0)).2):pageK O (k+1)=pageK O k ++ lowB x 2 ++ lowB y 2:=by
 rw[hx,hy];rfl
theorem grown_cell {w w':World}{row:Option Nat} (h:w.grownBy w' row) (b o:Nat) (hb:b<w.heap.size) (hne:∀ k,row=some k->k≠b):w'.cell? ⟨b,o,none⟩=w.cell? ⟨b,o,none⟩:=by
 apply World.cell?_of_block
 exact h.block b hb (fun e=>hne b e.symm rfl)
theorem grAll_is {w:World}{v:Value}{O:List (Int × Int)} (hs:OwSl w v O) (B:Bool) (h:allO O=B):Calls Tryz.prog 145 #[v] w fun e w'=>e=.returned (.bool B)/\Below w.heap.size w w':=by
 rw[<- h];exact grAll_any hs
theorem allO_len {O:List (Int × Int)} (h:allO O=true):O.length=64:=by
 unfold allO at h
 rw[Bool.and_eq_true] at h
 exact of_decide_eq_true h.1
theorem ob_make (w:World) (M:Nat) (hM:M<=1000):OB (w.alloc (.cells (Array.replicate M (.int .u8 0)) 5)) w.heap.size (.slice (some ⟨w.heap.size,0,none⟩) 0 M) []:=by
 have h:=OB.of_heap (w:=w.alloc (.cells (Array.replicate M (.int .u8 0)) 5)) (B:=w.heap.size) (g:=w.heap.size) (cap:=M) (l:=[]) (rest:=List.replicate M (.int .u8 0)) byt_nil (Nat.le_refl _) (by rw[heap_alloc_new];simp) (by simp) (by unfold maxLen;omega)
 exact h
set_option maxHeartbeats 1000000 in
theorem grPage_yes {w:World}{v:Value}{O:List (Int × Int)} (hs:OwSl w v O) (h:allO O=true):Calls Tryz.prog 214 #[v] w fun e w'=>∃ v,e=.returned (.tuple #[v,.int .i64 0])/\OB w' w.heap.size v (pageS O)/\Below w.heap.size w w':=by
 have hO:=allO_len h
 have HA:=Lib.hid (grAll_is hs true h)
 obtain ⟨b,off,cap,rfl,hb,hc⟩:=hs.at (by omega)
 obtain ⟨M,hMM⟩:∃ M:Nat,M=256:=⟨_,rfl⟩
 have hMI:(256:Int)=(M:Int):=by omega
 have HBB:=Lib.hid hs.1
 have HC:=Lib.hid hc
 have HO:=Lib.hid hO
 have HMI:=Lib.hid hMI
 have hM1:M<=1000:=by omega
 have hpo:pageS O=pageK O 64:=by unfold pageS;rw[hO]
 have HPO:=Lib.hid hpo
 rw[hO] at HA |-
 clear hs h hc hO hMM hMI hpo
 go_enter Tryz.func214,Tryz.ntmps214
 go_wp2_with (first
  |(go_at_call 145;refine HA.out.mono ?_;rintro e w2 ⟨rfl,hb2⟩)
  |(at_make;refine wpList_make_u8c _ rfl _ _ rfl 0 256 0 M rfl rfl rfl HMI.out (Nat.zero_le _) (by omega) ?_))
 have hob3:=ob_make w2 M hM1
 have hb3:Below w2.heap.size w2 (w2.alloc (.cells (Array.replicate M (.int .u8 0)) 5)):=below_box _ _
 generalize w2.alloc (.cells (Array.replicate M (.int .u8 0)) 5)=w3 at hob3 hb3 |-
 have hbw3:Below w.heap.size w w3:=hb2.trans (hb3.mono hb2.size)
 have hob3':=hob3.more (B':=w.heap.size) hb2.size
 have HOB3:=Lib.hid hob3'
 clear hob3 hob3' hb3
 go_loopw [4,13] (fun u i wr=>∃ k:Nat,k<=64/\i=.int .i64 k/\Hid (OB wr w.heap.size u (pageK O k))/\Below w.heap.size w wr) (fun _ i _=>64-(intOf i).toNat)
 case atStart=>exact ⟨0,by omega,rfl,HOB3,hbw3⟩
 case round=>
  obtain ⟨k,hk,rfl,HOB,hbr⟩:=hrel
  clear HOB3 hbw3
  by_cases hlt:k<64
  · have hck:=HC.out k (by rw[HO.out];exact hlt)
    have hbd:=HBB.out k
    obtain ⟨x,hx⟩:∃ x,x=(O.getD k (0,0)).1:=⟨_,rfl⟩
    obtain ⟨y,hy⟩:∃ y,y=(O.getD k (0,0)).2:=⟨_,rfl⟩
    rw[<- hx,<- hy] at hck hbd
    have c1:=(hbr.cell (p:=⟨b,off+k*2,none⟩) hb).trans hck.1
    have c2:=(hbr.cell (p:=⟨b,off+k*2+1,none⟩) hb).trans hck.2
    have ek:(k:Int)<64:=by omega
    have HPK:=Lib.hid (pageK_succ' O k x y hx hy)
    have HL:=Lib.hid (pageK_length O k)
    clear hx hy hck
    go_wp2_with fail
    have hbx:=below_box wr (.cells #[.int .u16 x,.int .u16 y] 109)
    have hhx:=heap_alloc_new wr (.cells #[.int .u16 x,.int .u16 y] 109)
    generalize wr.alloc (.cells #[.int .u16 x,.int .u16 y] 109)=W1 at hbx hhx |-
    obtain ⟨g,hg⟩:∃ g,g=wr.heap.size:=⟨_,rfl⟩
    rw[<- hg] at hhx |-
    have d1:W1.cell? ⟨g,0,none⟩=some (.int .u16 x):=by rw[cell_of_row _ _ _ _ _ _ hhx];rfl
    have d2:W1.cell? ⟨g,1,none⟩=some (.int .u16 y):=by rw[cell_of_row _ _ _ _ _ _ hhx];rfl
    have hgl:g<W1.heap.size:=(Array.getElem?_eq_some_iff.1 hhx).1
    have hune:=fun k hk=>(HOB.out.2.lt k hk).2
    have HG:=Lib.hid hg
    have HU:=Lib.hid hune
    have HB1:=Lib.hid (hbr.trans (hbx.mono hbr.size))
    have HOB1:=Lib.hid (HOB.out.below hbx)
    clear hg hune hbx hhx
    go_wp2_with (first
     |(go_at_call 177;(with_reducible refine (pPut_nil x hbd.1.1 hbd.1.2 _).mono ?_);rintro e w4 ⟨v4,rfl,hob4,hb4⟩
       have e2:w4.cell? ⟨g,1,none⟩=some (.int .u16 y):=(hb4.cell (p:=⟨g,1,none⟩) hgl).trans d2
       have hg4:g<w4.heap.size:=Nat.lt_of_lt_of_le hgl hb4.size
       have HB4:=Lib.hid (HB1.out.trans (hb4.mono HB1.out.size)))
     |(at_builtin
       refine wpList_append_bytes w4 rfl (.tmp 17) (.tmp 21) rfl w.heap.size _ (pageK O k) rfl (HOB1.out.below hb4) w4 v4 (lowB x 2) rfl hob4.bsl (fun _ _=>rfl) (by rw[HL.out,lowB_length];omega) HB4.out.size ?_
       intro v5 w5 hob5 hb5 hg5
       have f2:w5.cell? ⟨g,1,none⟩=some (.int .u16 y):=(grown_cell hg5 g 1 hg4 (fun k hk e=>by have:=HU.out k hk;rw[HG.out] at e;omega)).trans e2
       have HB5:=Lib.hid (HB4.out.trans hb5)
       clear hb5 hg5)
     |(go_at_call 177;(with_reducible refine (pPut_nil y hbd.2.1 hbd.2.2 _).mono ?_);rintro e w6 ⟨v6,rfl,hob6,hb6⟩
       have HB6:=Lib.hid (HB5.out.trans (hb6.mono HB5.out.size)))
     |(at_builtin
       refine wpList_append_bytes w6 rfl (.tmp 23) (.tmp 27) rfl w.heap.size _ (pageK O k ++ lowB x 2) rfl (hob5.below hb6) w6 v6 (lowB y 2) rfl hob6.bsl (fun _ _=>rfl) (by rw[List.length_append,HL.out,lowB_length,lowB_length];omega) HB6.out.size ?_
       intro v7 w7 hob7 hb7 _
       have HB7:=Lib.hid (HB6.out.trans hb7)
       clear hb7))
    go_roundw
    case rel=>exact ⟨k+1,by omega,by go_num,by show OB _ _ _ (pageK O (k+1));rw[HPK.out];exact hob7,HB7.out⟩
    case measure=>simp[intOf];omega
  · obtain rfl:k=64:=by omega
    go_wp2
    go_ret2
    exact ⟨_,rfl,by rw[HPO.out];exact HOB.out,hbr⟩
def pref (f:Nat->Int × Int) (k:Nat):List (Int × Int):=(List.range 64).map fun i=>if i<k then f i else (0,0)
theorem pref_length (f:Nat->Int × Int) (k:Nat):(pref f k).length=64:=by simp[pref]
theorem pref_set (f:Nat->Int × Int) (k:Nat):(pref f k).set k (f k)=pref f (k+1):=by
 apply List.ext_getElem (by simp[pref])
 intro i h1 h2
 simp only[pref,List.getElem_set,List.getElem_map,List.getElem_range]
 by_cases e:k=i
 · subst e;rw[if_pos rfl,if_pos (by omega)]
 · rw[if_neg e]
   by_cases h:i<k
   · rw[if_pos h,if_pos (by omega)]
   · rw[if_neg h,if_neg (by omega)]
theorem pref_zero (f:Nat->Int × Int):pref f 0=List.replicate 64 (0,0):=by
 rw[List.eq_replicate_iff]
 refine ⟨pref_length f 0,fun b hb=>?_⟩
 obtain ⟨i,_,rfl⟩:=List.mem_map.1 hb
 rw[if_neg (by omega)]
theorem pref_full (f:Nat->Int × Int):pref f 64=(List.range 64).map f:=by
 unfold pref
 apply List.map_congr_left
 intro i hi
 rw[if_pos (List.mem_range.1 hi)]
theorem rrForm_any (i a:Int) (hi0:0<=i) (hi:i<=65535) (ha0:0<=a) (ha:a<=65535) (w:World):
 Calls Tryz.prog 126 #[.agg #[.int .u16 i,.int .u16 a]] w fun e w'=>e=.returned (.bool (frmO i a))/\Below w.heap.size w w':=by
 have hob:=below_box w (.cells #[.int .u16 i,.int .u16 a] 109)
 obtain ⟨B,hB⟩:∃ B,B=frmO i a:=⟨_,rfl⟩
 rw[<- hB]
 unfold frmO at hB
 by_cases h0:i=0
 · rw[if_pos (.inl h0)] at hB
   subst h0
   cases hd:decide (a=0)
   all_goals
    rw[hd] at hB
    have HB:=Lib.hid hB
    have hda:(a==0)=_:=hd
    clear hB hd
    go_enter Tryz.func126,Tryz.ntmps126
    go_wp2
    go_ret
    exact ⟨by rw[HB.out];rfl,hob⟩
 · have e0:(i==0)=false:=by simpa using h0
   by_cases h1:i=65535
   · rw[if_pos (.inr h1)] at hB
     subst h1
     cases hd:decide (a=0)
     all_goals
      rw[hd] at hB
      have HB:=Lib.hid hB
      have hda:(a==0)=_:=hd
      clear hB hd h0
      go_enter Tryz.func126,Tryz.ntmps126
      go_wp2
      go_ret
      exact ⟨by rw[HB.out];rfl,hob⟩
   · rw[if_neg (by omega)] at hB
     have e1:(i==65535)=false:=by simpa using h1
     by_cases h2:i=65534
     · rw[if_pos h2] at hB
       subst h2
       cases hd:decide (a<6)
       all_goals
        rw[hd] at hB
        have HB:=Lib.hid hB
        clear hB h0 h1
        go_enter Tryz.func126,Tryz.ntmps126
        go_wp2
        go_ret
        exact ⟨by rw[HB.out];rfl,hob⟩
     · rw[if_neg h2] at hB
       have e2:(i==65534)=false:=by simpa using h2
       clear h0 h1 h2
       by_cases h3:i<48
       · by_cases h4:a<138
         · have HB:Hid (B=true):=Lib.hid (by rw[hB];simp[h3,h4])
           clear hB
           go_enter Tryz.func126,Tryz.ntmps126
           go_wp2
           go_ret
           exact ⟨by rw[HB.out];rfl,hob⟩
         · have hda:(a==65535)=B:=by rw[hB,decide_eq_true h3,decide_eq_false h4];rfl
           have hb2:B=true\/B=false:=by cases B <;> simp
           clear hB
           rcases hb2 with rfl|rfl
           all_goals
            go_enter Tryz.func126,Tryz.ntmps126
            go_wp2
            go_ret
            exact ⟨rfl,hob⟩
       · have HB:Hid (B=false):=Lib.hid (by rw[hB];simp[h3])
         clear hB
         go_enter Tryz.func126,Tryz.ntmps126
         go_wp2
         go_ret
         exact ⟨by rw[HB.out];rfl,hob⟩
theorem rrForm_is (i a:Int) (hi:0<=i/\i<=65535) (ha:0<=a/\a<=65535) (B:Bool) (h:frmO i a=B) (w:World):
 Calls Tryz.prog 126 #[.agg #[.int .u16 i,.int .u16 a]] w fun e w'=>e=.returned (.bool B)/\Below w.heap.size w w':=by
 rw[<- h];exact rrForm_any i a hi.1 hi.2 ha.1 ha.2 w
theorem rrPage_len {w:World} (ao:Option Addr) (len cap:Nat) (h:len≠64):Calls Tryz.prog 77 #[.slice ao len cap] w fun e w'=>e=.returned (.tuple #[.slice none 0 0,.int .i64 1])/\w=w':=by
 have hne:((len:Int) != 64)=true:=by simp;omega
 go_enter Tryz.func77,Tryz.ntmps77
 go_wp2
 go_ret2
 exact ⟨rfl,rfl⟩
theorem rPut2_c {w0 w:World}{u:Value}{l:List Int} (hs:BSl w0 u l) (hl:l.length<=1000) (x:Int) (hx0:0<=x) (hx:x<=65535) (hb:Below w0.heap.size w0 w):
 Calls Tryz.prog 127 #[u,.int .u64 x,.int .i64 2] w fun e w'=>∃ v,e=.returned v/\BSl w' v (l ++ lowB x 2)/\Below w0.heap.size w0 w':=
 (rPut_at (hs.below hb) (by omega) x 2 2 (by omega) (by omega) rfl hx0 (by omega)).mono fun e w' ⟨v,he,hob,hb2⟩=>⟨v,he,hob.bsl,hb.trans (hb2.mono hb.size)⟩
theorem u64_in (x:Int) (h0:0<=x) (h1:x<18446744073709551616):IntKind.u64.wrap x=x:=by rw[IntKind.wrap_u64];omega
def RPageOut (O:List (Int × Int)) (w:World) (e:Ending) (w':World):Prop:=
 (allO O=true/\∃ v,e=.returned (.tuple #[v,.int .i64 0])/\BSl w' v (pageS O)/\Below w.heap.size w w')\/
 (allO O=false/\e=.returned (.tuple #[.slice none 0 0,.int .i64 1])/\Below w.heap.size w w')
set_option maxHeartbeats 2000000 in
theorem rrPage_64 {w:World}{b off cap:Nat}{O:List (Int × Int)} (hO:O.length=64) (hB:OwB O) (hb:b<w.heap.size)
 (hc:∀ j,j<O.length->w.cell? ⟨b,off+j*2,none⟩=some (.int .u16 (O.getD j (0,0)).1)/\w.cell? ⟨b,off+j*2+1,none⟩=some (.int .u16 (O.getD j (0,0)).2)):
 Calls Tryz.prog 77 #[.slice (some ⟨b,off,none⟩) 64 cap] w (RPageOut O w):=by
 have HC:=Lib.hid hc
 have HO:=Lib.hid hO
 have HBB:=Lib.hid hB
 have hall:allO O=frmK O 64:=by rw[allO,hO];rfl
 have HA:=Lib.hid hall
 have hpo:pageS O=pageK O 64:=by unfold pageS;rw[hO]
 have HPO:=Lib.hid hpo
 clear hc hO hB hall hpo
 go_enter Tryz.func77,Tryz.ntmps77
 go_wp2
 go_loopw [4,11] (fun u i wr=>∃ k:Nat,k<=64/\i=.int .i64 k/\Hid (frmK O k=true)/\Hid (BSl wr u (pageK O k))/\Below w.heap.size w wr) (fun _ i _=>64-(intOf i).toNat)
 case atStart=>exact ⟨0,by omega,rfl,rfl,bsl_nil _,Below.refl _ _⟩
 case round=>
  obtain ⟨k,hk,rfl,HK,HU,hbr⟩:=hrel
  by_cases hlt:k<64
  · have hck:=HC.out k (by rw[HO.out];exact hlt)
    have hbd:=HBB.out k
    have hj:frmJ O k=frmO (O.getD k (0,0)).1 (O.getD k (0,0)).2:=rfl
    obtain ⟨x,hx⟩:∃ x,x=(O.getD k (0,0)).1:=⟨_,rfl⟩
    obtain ⟨y,hy⟩:∃ y,y=(O.getD k (0,0)).2:=⟨_,rfl⟩
    rw[<- hx,<- hy] at hck hbd hj
    have c1:=(hbr.cell (p:=⟨b,off+k*2,none⟩) hb).trans hck.1
    have c2:=(hbr.cell (p:=⟨b,off+k*2+1,none⟩) hb).trans hck.2
    have ek:(k:Int)<64:=by omega
    have HPK:=Lib.hid (pageK_succ' O k x y hx hy)
    have hpl:=pageK_length O k
    have HL1:Hid ((pageK O k).length<=1000):=Lib.hid (by omega)
    have HL2:Hid ((pageK O k ++ lowB x 2).length<=1000):=Lib.hid (by rw[List.length_append,lowB_length];omega)
    clear hx hy hck hpl
    cases hf:frmO x y
    · have HF:=Lib.hid hf
      rw[hf] at hj
      have HJ:=Lib.hid hj
      clear hf hj
      go_wp2_with (go_at_call 126;refine (rrForm_is x y hbd.1 hbd.2 false HF.out _).mono ?_;rintro e w2 ⟨rfl,hb2⟩)
      go_ret2
      exact .inr ⟨by rw[HA.out,frmK_no HJ.out hlt],rfl,hbr.trans (hb2.mono hbr.size)⟩
    · have HF:=Lib.hid hf
      rw[hf] at hj
      have HJ:=Lib.hid hj
      clear hf hj
      go_wp2_with (go_at_call 126;refine (rrForm_is x y hbd.1 hbd.2 true HF.out _).mono ?_;rintro e w2 ⟨rfl,hb2⟩)
      have b0:b<wr.heap.size:=Nat.lt_of_lt_of_le hb hbr.size
      have b2:b<w2.drew.heap.size:=Nat.lt_of_lt_of_le b0 hb2.size
      have hbd2:Below wr.heap.size wr w2.drew:=hb2.drew
      have d1:w2.drew.cell? ⟨b,off+k*2,none⟩=some (.int .u16 x):=(hbd2.cell (p:=⟨b,off+k*2,none⟩) b0).trans c1
      have d2:w2.drew.cell? ⟨b,off+k*2+1,none⟩=some (.int .u16 y):=(hbd2.cell (p:=⟨b,off+k*2+1,none⟩) b0).trans c2
      have HC1:=Lib.hid (fun W (h:Below wr.heap.size wr W)=>(hbr.trans (h.mono hbr.size)))
      have HX:=Lib.hid (fun W (h:Below wr.heap.size wr W)=>And.intro ((h.cell (p:=⟨b,off+k*2,none⟩) b0).trans c1) ((h.cell (p:=⟨b,off+k*2+1,none⟩) b0).trans c2))
      have HP1:=Lib.hid (fun W (h:Below wr.heap.size wr W)=>rPut2_c HU.out HL1.out x hbd.1.1 hbd.1.2 h)
      have hwx:IntKind.u64.wrap x=x:=u64_in x hbd.1.1 (by omega)
      have hwy:IntKind.u64.wrap y=y:=u64_in y hbd.2.1 (by omega)
      clear c1 c2 hb2 b2
      go_region_held3 (fun W=>W.cell? ⟨b,off+k*2,none⟩=some (.int .u16 x)/\W.cell? ⟨b,off+k*2+1,none⟩=some (.int .u16 y)) (first|exact ⟨f1,f2⟩|exact ⟨e1,e2⟩|exact ⟨d1,d2⟩) (first
       |(go_at_call 127;(with_reducible refine (HP1.out _ hbd2).mono ?_);rintro e w3 ⟨v3,rfl,hs3,hb3⟩
         obtain ⟨e1,e2⟩:=HX.out _ hb3
         have HP2:=Lib.hid (fun W (h:Below w3.heap.size w3 W)=>rPut2_c hs3 HL2.out y hbd.2.1 hbd.2.2 h))
       |(go_at_call 127;(with_reducible refine (HP2.out _ (Below.refl _ _)).mono ?_);rintro e w4 ⟨v4,rfl,hs4,hb4⟩
         obtain ⟨f1,f2⟩:=HX.out _ (hb3.trans (hb4.mono hb3.size))))
      go_wp2_with fail
      go_roundw
      case rel=>exact ⟨k+1,by omega,by go_num,by show frmK O (k+1)=true;rw[frmK,HK.out,HJ.out];rfl,by show BSl _ _ (pageK O (k+1));rw[HPK.out];exact hs4,HC1.out _ (hb3.trans (hb4.mono hb3.size))⟩
      case measure=>simp[intOf];omega
  · obtain rfl:k=64:=by omega
    go_wp2
    go_ret2
    exact .inl ⟨by rw[HA.out,HK.out],_,rfl,by rw[HPO.out];exact HU.out,hbr⟩
theorem rrPage_any {w:World}{v:Value}{O:List (Int × Int)} (hs:OwSl w v O):Calls Tryz.prog 77 #[v] w (RPageOut O w):=by
 by_cases h:O.length=64
 · obtain ⟨b,off,cap,rfl,hb,hc⟩:=hs.at (by omega)
   rw[h]
   exact rrPage_64 h hs.1 hb hc
 · obtain ⟨ao,cap,rfl⟩:=hs.shape
   refine (rrPage_len ao _ cap h).mono fun e w' ⟨he,hw⟩=>.inr ⟨?_,he,by rw[<- hw];exact Below.refl _ _⟩
   rw[allO,decide_eq_false h];rfl
theorem owr_nil (w:World) (B:Nat):OwR w B (.slice none 0 0) []:=⟨owB_of fun j h=>by simp at h,by simp[ownC],.inl ⟨rfl,rfl⟩⟩
theorem rrFresh_yes (g:Int) (h1:0<=g) (h2:g<12) (w:World):Calls Tryz.prog 125 #[.int .i64 g] w fun e w'=>∃ v,e=.returned v/\OwR w' w.heap.size v (freshK g 64)/\Below w.heap.size w w':=by
 have h3:g<=11:=by omega
 go_enter Tryz.func125,Tryz.ntmps125
 go_wp2
 go_loopw [3,12] (fun u i wr=>∃ k:Nat,k<=64/\i=.int .i64 k/\Hid (OwR wr w.heap.size u (freshK g k))/\Below w.heap.size w wr) (fun _ i _=>64-(intOf i).toNat)
 case atStart=>exact ⟨0,by omega,rfl,owr_nil _ _,Below.refl _ _⟩
 case round=>
  obtain ⟨k,hk,rfl,HU,hbr⟩:=hrel
  by_cases hlt:k<64
  · have ek:(k:Int)<64:=by omega
    have HS:=Lib.hid (freshK_succ g k)
    have HL:=Lib.hid (freshK_length g k)
    cases hf:fixB (64*g+(k:Int))
    · have HF:=Lib.hid hf
      have hj:freshJ g k=(0,0):=by unfold freshJ;rw[hf];rfl
      have HJ:=Lib.hid hj
      clear hf hj
      go_wp2_with (first
       |(go_at_call 51;refine (rFixed_is _ (by omega) _ HF.out _).mono ?_;rintro e w3 ⟨rfl,rfl⟩)
       |(at_builtin
         refine wpList_append_ow _ 0 0 (by decide) (by decide) rfl (.tmp 22) (.tmp 24) rfl w.heap.size _ (freshK g k) rfl (HU.out.below (by first|exact below_box _ _|exact (below_box _ _).setCell (p:=⟨wr.heap.size,0,none⟩) (Nat.le_refl _) _)) (by rw[HL.out];omega) (by simp;rfl) (by simp[World.setCell];have:=hbr.size;omega) ?_
         intro v4 w4 hob4 hb4))
      go_roundw
      case rel=>exact ⟨k+1,by omega,by go_num,by show OwR _ _ _ (freshK g (k+1));rw[HS.out,HJ.out];exact hob4,(hbr.trans ((by first|exact below_box _ _|exact (below_box _ _).setCell (p:=⟨wr.heap.size,0,none⟩) (Nat.le_refl _) _:Below wr.heap.size wr _).mono hbr.size)).trans hb4⟩
      case measure=>simp[intOf];omega
    · have HF:=Lib.hid hf
      have hj:freshJ g k=(65535,0):=by unfold freshJ;rw[hf];rfl
      have HJ:=Lib.hid hj
      clear hf hj
      go_wp2_with (first
       |(go_at_call 51;refine (rFixed_is _ (by omega) _ HF.out _).mono ?_;rintro e w3 ⟨rfl,rfl⟩)
       |(at_builtin
         refine wpList_append_ow _ 65535 0 (by decide) (by decide) rfl (.tmp 22) (.tmp 24) rfl w.heap.size _ (freshK g k) rfl (HU.out.below (by first|exact below_box _ _|exact (below_box _ _).setCell (p:=⟨wr.heap.size,0,none⟩) (Nat.le_refl _) _)) (by rw[HL.out];omega) (by simp;rfl) (by simp[World.setCell];have:=hbr.size;omega) ?_
         intro v4 w4 hob4 hb4))
      go_roundw
      case rel=>exact ⟨k+1,by omega,by go_num,by show OwR _ _ _ (freshK g (k+1));rw[HS.out,HJ.out];exact hob4,(hbr.trans ((by first|exact below_box _ _|exact (below_box _ _).setCell (p:=⟨wr.heap.size,0,none⟩) (Nat.le_refl _) _:Below wr.heap.size wr _).mono hbr.size)).trans hb4⟩
      case measure=>simp[intOf];omega
  · obtain rfl:k=64:=by omega
    go_wp2
    go_ret
    exact ⟨_,rfl,HU.out,hbr⟩
def pagesB (l:List Int):Prop:=l.length=256/\frmK (ownK l 64) 64=true
def OwnOut (l:List Int) (w:World) (e:Ending) (w':World):Prop:=
 (pagesB l/\∃ v,e=.returned (.tuple #[v,.int .i64 0])/\OwR w' w.heap.size v (ownK l 64)/\Below w.heap.size w w')\/
 (¬ pagesB l/\e=.returned (.tuple #[.slice none 0 0,.int .i64 18])/\Below w.heap.size w w')
theorem pGet2 {w:World}{v:Value}{c:List Int} (hs:BSl w v c) (hc:c.length<=100000) (a:Nat) (ha:a+2<=c.length) (y:Int) (hy:y=getV c a 2):Calls Tryz.prog 144 #[v,.int .i64 (a:Int),.int .i64 2] w fun e w'=>e=.returned (.tuple #[.int .u64 y,.bool true])/\w=w':=by
 have hg:=pGet_any hs (by omega) (a:Int) 2 (by omega) (by omega)
 have hn:getN c (a:Int) 2=y:=by unfold getN;rw[if_pos (by omega),hy];rfl
 have hb:gotB c (a:Int) 2=true:=decide_eq_true (by omega)
 rw[hn,hb] at hg
 exact hg
theorem grOwn_len {w:World} (ao:Option Addr) (len cap:Nat) (h:len≠256):Calls Tryz.prog 96 #[.slice ao len cap] w fun e w'=>e=.returned (.tuple #[.slice none 0 0,.int .i64 18])/\w=w':=by
 have hne:((len:Int) != 256)=true:=by simp;omega
 go_enter Tryz.func96,Tryz.ntmps96
 go_wp2
 go_ret2
 exact ⟨rfl,rfl⟩
theorem own_all (l:List Int):allO (ownK l 64)=frmK (ownK l 64) 64:=by rw[allO,ownK_length];rfl
theorem grOwn_256 {w:World}{v:Value}{l:List Int} (hs:BSl w v l) (hl:l.length=256):Calls Tryz.prog 96 #[v] w (OwnOut l w):=by
 obtain ⟨ao,cap,rfl,_⟩:=hs.shape
 obtain ⟨M,hMM⟩:∃ M:Nat,M=64:=⟨_,rfl⟩
 have HMI:Hid ((64:Int)=(M:Int)):=Lib.hid (by omega)
 have hM1:M<=1000:=by omega
 have HM:=Lib.hid hMM
 have HS:=Lib.hid hs
 have HL:=Lib.hid hl
 rw[hl] at HS |-
 clear hMM hs hl
 go_enter Tryz.func96,Tryz.ntmps96
 go_wp2_with (at_make;refine wpList_make_ow _ rfl _ _ rfl _ M rfl rfl HMI.out (by omega) ?_)
 have hz:(w.alloc (.cells (ownC (List.replicate M (0,0))).toArray 109)).heap[w.heap.size]? =some (.cells (ownC (pref (ownJ l) 0)).toArray 109 (0,0)):=by
  rw[pref_zero,<- HM.out];exact heap_alloc_new w _
 have hb2:Below w.heap.size w (w.alloc (.cells (ownC (List.replicate M (0,0))).toArray 109)):=below_box _ _
 generalize w.alloc (.cells (ownC (List.replicate M (0,0))).toArray 109)=w2 at hz hb2 |-
 have HZ:=Lib.hid hz
 clear hz
 go_loopw [16] (fun i wr=>∃ k:Nat,k<=64/\i=.int .i64 k/\Hid (wr.heap[w.heap.size]? =some (.cells (ownC (pref (ownJ l) k)).toArray 109 (0,0)))/\Below w.heap.size w wr) (fun i _=>64-(intOf i).toNat)
 case atStart=>exact ⟨0,by omega,rfl,HZ,hb2⟩
 case round=>
  obtain ⟨k,hk,rfl,HR,hbr⟩:=hrel
  clear HZ hb2
  by_cases hlt:k<64
  · have ekM:(k:Int)<(M:Int):=by have:=HMI.out;omega
    have ekN:k<M:=by have:=HM.out;omega
    have ek:(k:Int)<64:=by omega
    have hsr:=HS.out.below hbr
    have T1:=pGet2 hsr (by rw[HL.out];decide) (4*k) (by rw[HL.out];omega) _ rfl
    have T2:=pGet2 hsr (by rw[HL.out];decide) (4*k+2) (by rw[HL.out];omega) _ rfl
    have b1:=getV2_bd (byt_mem hsr.1) (4*k)
    have b2:=getV2_bd (byt_mem hsr.1) (4*k+2)
    have hps:=pref_set (ownJ l) k
    rw[ownJ] at hps
    obtain ⟨x,hx⟩:∃ x,x=getV l (4*k) 2:=⟨_,rfl⟩
    obtain ⟨y,hy⟩:∃ y,y=getV l (4*k+2) 2:=⟨_,rfl⟩
    rw[<- hx] at T1 b1 hps
    rw[<- hy] at T2 b2 hps
    rw[show ((4*k:Nat):Int)=(k:Int)*4 by push_cast;omega] at T1
    rw[show ((4*k+2:Nat):Int)=(k:Int)*4+2 by push_cast;omega] at T2
    have H1:=Lib.hid T1
    have H2:=Lib.hid T2
    have HPS:=Lib.hid hps
    clear T1 T2 hx hy hsr hps
    obtain ⟨b10,b11⟩:=b1
    obtain ⟨b20,b21⟩:=b2
    go_wp2_with (first
     |(go_at_call 144;(with_reducible refine H1.out.mono ?_);rintro e w3 ⟨rfl,rfl⟩)
     |(go_at_call 144;(with_reducible refine H2.out.mono ?_);rintro e w3 ⟨rfl,rfl⟩)
     |(with_reducible refine wpList_store_ow rfl (.tmp 41) (.tmp 40) rfl w.heap.size k (pref (ownJ l) k) x y rfl rfl HR.out (by rw[pref_length];exact hlt) ?_;intro w4 hw4 hr4
       rw[HPS.out] at hr4))
    go_roundw
    case rel=>exact ⟨k+1,by omega,by go_num,hr4,hbr.trans (hw4.below (Nat.le_refl _))⟩
    case measure=>simp[intOf];omega
  · obtain rfl:k=64:=by omega
    have hkM:¬ (64:Nat)<M:=by have:=HM.out;omega
    have hr:=HR.out
    rw[pref_full] at hr
    have hob0:=OwR.of_row (B:=w.heap.size) (owB_ownK (byt_mem HS.out.1) 64) (Nat.le_refl _) hr (by rw[ownK_length];decide)
    rw[ownK_length] at hob0
    have hob:OwR wr w.heap.size (.slice (some ⟨w.heap.size,0,none⟩) M M) (ownK l 64):=by rw[HM.out];exact hob0
    clear hob0
    have HOB:=Lib.hid hob
    have ho:=own_all l
    cases hf:frmK (ownK l 64) 64
    all_goals
     rw[hf] at ho
     have HF:=Lib.hid hf
     have HA:=Lib.hid (grAll_is hob.sl _ ho)
     clear hf ho hr
    all_goals clear hob
    · go_wp2_with (go_at_call 145;refine HA.out.mono ?_;rintro e w3 ⟨rfl,hb3⟩)
      go_ret2
      exact .inr ⟨(fun h=>by have h2:=h.2;rw[HF.out] at h2;cases h2),rfl,hbr.trans (hb3.mono hbr.size)⟩
    · go_wp2_with (go_at_call 145;refine HA.out.mono ?_;rintro e w3 ⟨rfl,hb3⟩)
      go_ret2
      exact .inl ⟨⟨HL.out,HF.out⟩,_,rfl,HOB.out.below hb3,hbr.trans (hb3.mono hbr.size)⟩
theorem grOwn_any {w:World}{v:Value}{l:List Int} (hs:BSl w v l):Calls Tryz.prog 96 #[v] w (OwnOut l w):=by
 by_cases h:l.length=256
 · exact grOwn_256 hs h
 · obtain ⟨ao,cap,rfl,_⟩:=hs.shape
   exact (grOwn_len ao _ cap h).mono fun e w' ⟨he,hw⟩=>.inr ⟨fun hp=>h hp.1,he,by rw[<- hw];exact Below.refl _ _⟩
end Go.Proofs.YtedabomlfcghoaaGreat
