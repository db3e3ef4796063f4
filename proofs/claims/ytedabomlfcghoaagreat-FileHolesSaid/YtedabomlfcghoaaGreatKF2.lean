/- What the law rests on: part 2. -/
import Derived.Deep.MidRow
import Derived.Deep.WholeRow
import Derived.Deep.CutRange
import Derived.Test.YtedabomlfcghoaaGreatKF1
set_option linter.unusedVariables false
namespace Go.Proofs.YtedabomlfcghoaaGreat
set_option maxRecDepth 100000
open Go.RowKit BM
def frmO (i a:Int):Bool:=
 if i=0\/i=65535 then decide (a=0) else if i=65534 then decide (a<6) else decide (i<48) && (decide (a<138) || decide (a=65535))
def OwB (O:List (Int × Int)):Prop:=∀ j,(0<=(O.getD j (0,0)).1/\(O.getD j (0,0)).1<=65535)/\(0<=(O.getD j (0,0)).2/\(O.getD j (0,0)).2<=65535)
def frmJ (O:List (Int × Int)) (j:Nat):Bool:=frmO (O.getD j (0,0)).1 (O.getD j (0,0)).2
def frmK (O:List (Int × Int)):Nat->Bool
 |0=>true
 |k+1=>frmK O k && frmJ O k
def allO (O:List (Int × Int)):Bool:=decide (O.length=64) && frmK O O.length
theorem frmK_iff (O:List (Int × Int)) (k:Nat):frmK O k=true ↔ ∀ j,j<k->frmJ O j=true:=by
 induction k with
 |zero=>exact ⟨fun _ j h=>by omega,fun _=>rfl⟩
 |succ k ih=>
  rw[frmK,Bool.and_eq_true,ih]
  constructor
  · rintro ⟨h1,h2⟩ j hj
    by_cases e:j=k
    · rw[e];exact h2
    · exact h1 j (by omega)
  · exact fun h=>⟨fun j hj=>h j (by omega),h k (by omega)⟩
theorem frmK_no {O:List (Int × Int)}{k n:Nat} (h:frmJ O k=false) (hk:k<n):frmK O n=false:=by
 cases hb:frmK O n
 · rfl
 · have:=(frmK_iff O n).1 hb k hk
   rw[h] at this;cases this
def pageK (O:List (Int × Int)):Nat->List Int
 |0=>[]
 |k+1=>pageK O k ++ lowB (O.getD k (0,0)).1 2 ++ lowB (O.getD k (0,0)).2 2
theorem pageK_length (O:List (Int × Int)) (k:Nat):(pageK O k).length=4*k:=by
 induction k with
 |zero=>rfl
 |succ k ih=>rw[pageK,List.length_append,List.length_append,ih,lowB_length,lowB_length];omega
def pageS (O:List (Int × Int)):List Int:=pageK O O.length
def ownJ (l:List Int) (j:Nat):Int × Int:=(getV l (4*j) 2,getV l (4*j+2) 2)
def ownK (l:List Int) (k:Nat):List (Int × Int):=(List.range k).map (ownJ l)
theorem ownK_length (l:List Int) (k:Nat):(ownK l k).length=k:=by simp[ownK]
theorem ownK_getD (l:List Int) (k j:Nat) (h:j<k):(ownK l k).getD j (0,0)=ownJ l j:=by
 simp[ownK,List.getD_eq_getElem?_getD,h]
theorem getV2_bd {l:List Int} (h:∀ x∈l,0<=x/\x<=255) (a:Nat):0<=getV l a 2/\getV l a 2<=65535:=by
 have:=getV_bound h a 2
 have e:(256:Int) ^ 2=65536:=rfl
 omega
theorem owB_of {O:List (Int × Int)} (h:∀ j,j<O.length->(0<=(O.getD j (0,0)).1/\(O.getD j (0,0)).1<=65535)/\(0<=(O.getD j (0,0)).2/\(O.getD j (0,0)).2<=65535)):OwB O:=fun j=>by
 by_cases hj:j<O.length
 · exact h j hj
 · rw[List.getD_eq_getElem?_getD,List.getElem?_eq_none (by omega)];decide
theorem owB_ownK {l:List Int} (h:∀ x∈l,0<=x/\x<=255) (k:Nat):OwB (ownK l k):=owB_of fun j hj=>by
 rw[ownK_length] at hj
 rw[ownK_getD l k j hj]
 exact ⟨getV2_bd h _,getV2_bd h _⟩
def usedJ (O:List (Int × Int)) (j:Nat):Bool:=decide ((O.getD j (0,0)).1≠0)
def usedK (O:List (Int × Int)) (k:Nat):List Bool:=(List.range k).map (usedJ O)
theorem usedK_length (O:List (Int × Int)) (k:Nat):(usedK O k).length=k:=by simp[usedK]
theorem usedK_getD (O:List (Int × Int)) (k j:Nat) (h:j<k):(usedK O k).getD j false=usedJ O j:=by
 simp[usedK,List.getD_eq_getElem?_getD,h]
theorem usedK_succ (O:List (Int × Int)) (k:Nat):usedK O (k+1)=usedK O k ++ [usedJ O k]:=by simp[usedK,List.range_succ]
def freshJ (g:Int) (j:Nat):Int × Int:=(if fixB (64*g+(j:Int))=true then 65535 else 0,0)
def freshK (g:Int) (k:Nat):List (Int × Int):=(List.range k).map (freshJ g)
theorem freshK_length (g:Int) (k:Nat):(freshK g k).length=k:=by simp[freshK]
theorem freshK_succ (g:Int) (k:Nat):freshK g (k+1)=freshK g k ++ [freshJ g k]:=by simp[freshK,List.range_succ]
def bitN (b:Bool):Int:=if b then 1 else 0
def byteJ (L:List Bool) (j:Nat):Int:=bitN (L.getD (8*j) false)+2*bitN (L.getD (8*j+1) false)+4*bitN (L.getD (8*j+2) false)+8*bitN (L.getD (8*j+3) false)+
 16*bitN (L.getD (8*j+4) false)+32*bitN (L.getD (8*j+5) false)+64*bitN (L.getD (8*j+6) false)+128*bitN (L.getD (8*j+7) false)
def bytesB (L:List Bool):List Int:=(List.range ((L.length+7) / 8)).map (byteJ L)
theorem bitN_01 (b:Bool):0<=bitN b/\bitN b<=1:=by cases b <;> decide
theorem bitN_dec (b:Bool) (x:Int) (h:x=bitN b):decide (x=1)=b:=by subst h;cases b <;> rfl
theorem byte_bits (v0 v1 v2 v3 v4 v5 v6 v7:Int) (h0:0<=v0/\v0<=1) (h1:0<=v1/\v1<=1) (h2:0<=v2/\v2<=1) (h3:0<=v3/\v3<=1) (h4:0<=v4/\v4<=1) (h5:0<=v5/\v5<=1) (h6:0<=v6/\v6<=1) (h7:0<=v7/\v7<=1) (x:Int)
 (hx:x=v0+2*v1+4*v2+8*v3+16*v4+32*v5+64*v6+128*v7):
 x / 2 ^ 0%2=v0/\x / 2 ^ 1%2=v1/\x / 2 ^ 2%2=v2/\x / 2 ^ 3%2=v3/\x / 2 ^ 4%2=v4/\x / 2 ^ 5%2=v5/\x / 2 ^ 6%2=v6/\x / 2 ^ 7%2=v7:=by
 refine ⟨?_,?_,?_,?_,?_,?_,?_,?_⟩ <;> omega
theorem byteJ_bit (L:List Bool) (j k:Nat) (hk:k<8):bitAt (byteJ L j) k=L.getD (8*j+k) false:=by
 obtain ⟨e0,e1,e2,e3,e4,e5,e6,e7⟩:=byte_bits _ _ _ _ _ _ _ _ (bitN_01 (L.getD (8*j) false)) (bitN_01 (L.getD (8*j+1) false)) (bitN_01 (L.getD (8*j+2) false)) (bitN_01 (L.getD (8*j+3) false))
  (bitN_01 (L.getD (8*j+4) false)) (bitN_01 (L.getD (8*j+5) false)) (bitN_01 (L.getD (8*j+6) false)) (bitN_01 (L.getD (8*j+7) false)) (byteJ L j) rfl
 have e:k=0\/k=1\/k=2\/k=3\/k=4\/k=5\/k=6\/k=7:=by omega
 unfold bitAt
 rcases e with rfl|rfl|rfl|rfl|rfl|rfl|rfl|rfl
 · exact bitN_dec _ _ e0
 · exact bitN_dec _ _ e1
 · exact bitN_dec _ _ e2
 · exact bitN_dec _ _ e3
 · exact bitN_dec _ _ e4
 · exact bitN_dec _ _ e5
 · exact bitN_dec _ _ e6
 · exact bitN_dec _ _ e7
theorem byteJ_bd (L:List Bool) (j:Nat):0<=byteJ L j/\byteJ L j<=255:=by
 have h0:=bitN_01 (L.getD (8*j) false)
 have h1:=bitN_01 (L.getD (8*j+1) false)
 have h2:=bitN_01 (L.getD (8*j+2) false)
 have h3:=bitN_01 (L.getD (8*j+3) false)
 have h4:=bitN_01 (L.getD (8*j+4) false)
 have h5:=bitN_01 (L.getD (8*j+5) false)
 have h6:=bitN_01 (L.getD (8*j+6) false)
 have h7:=bitN_01 (L.getD (8*j+7) false)
 unfold byteJ
 omega
theorem bytesB_length (L:List Bool):(bytesB L).length=(L.length+7) / 8:=by simp[bytesB]
theorem bytesB_getD (L:List Bool) (j:Nat):(bytesB L).getD j 0=if j<(L.length+7) / 8 then byteJ L j else 0:=by
 unfold bytesB
 rw[List.getD_eq_getElem?_getD,List.getElem?_map]
 by_cases h:j<(L.length+7) / 8
 · rw[if_pos h,List.getElem?_range h];rfl
 · rw[if_neg h,List.getElem?_eq_none (by simp;omega)];rfl
theorem rep_bytesB (L:List Bool):Rep (bytesB L) L:=by
 refine ⟨bytesB_length L,fun j=>?_,fun j=>?_⟩
 · rw[bytesB_getD];split
   · exact byteJ_bd L j
   · decide
 · rw[bytesB_getD]
   by_cases h:j / 8<(L.length+7) / 8
   · rw[if_pos h,byteJ_bit L _ _ (Nat.mod_lt _ (by omega))]
     congr 1;omega
   · rw[if_neg h,bitAt_zero,List.getD_eq_getElem?_getD,List.getElem?_eq_none (by omega)];rfl
def descC (g:Int) (L:List Bool):List Int:=[100,101,115,99] ++ lowB g 2 ++ lowB (countB L) 2 ++ bytesB L
def descS (g:Int) (L:List Bool):List Int:=sealS (descC g L)
theorem descC_length (g:Int) (L:List Bool) (h:L.length=64):(descC g L).length=16:=by
 simp[descC,lowB_length,bytesB_length,h]
end Go.Proofs.YtedabomlfcghoaaGreat
namespace Go.Proofs.YtedabomlfcghoaaGreat
set_option maxRecDepth 100000
open Go.RowKit
theorem gFormed_any (b:Int) (hm:b<=9223372036854775807) (w:World):Calls Tryz.prog 52 #[.int .i64 b] w fun e w'=>e=.returned (.bool (frmB b))/\w=w':=by
 by_cases h1:0<b
 · by_cases h2:b%64=0
   · by_cases h3:b / 64<=12
     · have hr:frmB b=true:=decide_eq_true (by omega)
       rw[hr]
       have h0:0<=b:=by omega
       have h2':(b%64==0)=true:=by simp[h2]
       clear hr h2
       go_enter Tryz.func52,Tryz.ntmps52
       go_wp2
       go_ret
       exact ⟨rfl,rfl⟩
     · have hr:frmB b=false:=decide_eq_false (by omega)
       rw[hr]
       have h0:0<=b:=by omega
       have h2':(b%64==0)=true:=by simp[h2]
       clear hr h2
       go_enter Tryz.func52,Tryz.ntmps52
       go_wp2
       go_ret
       exact ⟨rfl,rfl⟩
   · have hr:frmB b=false:=decide_eq_false (by omega)
     rw[hr]
     have h0:0<=b:=by omega
     have h2':(b%64==0)=false:=by simp[h2]
     clear hr
     go_enter Tryz.func52,Tryz.ntmps52
     go_wp2
     go_ret
     exact ⟨rfl,rfl⟩
 · have hr:frmB b=false:=decide_eq_false (by omega)
   rw[hr]
   clear hr
   go_enter Tryz.func52,Tryz.ntmps52
   go_wp2
   go_ret
   exact ⟨rfl,rfl⟩
theorem gFormed_yes (k:Nat) (h1:1<=k) (h2:k<=12) (w:World):Calls Tryz.prog 52 #[.int .i64 (64*(k:Int))] w fun e w'=>e=.returned (.bool true)/\w=w':=by
 have:=gFormed_any (64*(k:Int)) (by omega) w
 rw[frm_mk k h1 h2] at this;exact this
theorem gFormed_no (b:Int) (hm:b<=9223372036854775807) (h:frmB b=false) (w:World):Calls Tryz.prog 52 #[.int .i64 b] w fun e w'=>e=.returned (.bool false)/\w=w':=by
 have:=gFormed_any b hm w
 rw[h] at this;exact this
theorem gGroups_yes (k:Nat) (h1:1<=k) (h2:k<=12) (w:World):Calls Tryz.prog 54 #[.int .i64 (64*(k:Int))] w fun e w'=>e=.returned (.int .i64 k)/\w=w':=by
 go_enter Tryz.func54,Tryz.ntmps54
 go_wp2_with (go_at_call 52;refine (gFormed_yes k h1 h2 _).mono ?_;rintro e w' ⟨rfl,rfl⟩)
 go_ret
 exact ⟨ret_i (by omega),rfl⟩
theorem gGroups_any (b:Int) (hm:b<=9223372036854775807) (w:World):Calls Tryz.prog 54 #[.int .i64 b] w fun e w'=>e=.returned (.int .i64 (grsI b))/\w=w':=by
 cases hb:frmB b
 · have hr:grsI b=0:=by unfold grsI;rw[if_neg (by simp[hb])]
   rw[hr]
   have HB:=Lib.hid hb
   clear hb hr
   go_enter Tryz.func54,Tryz.ntmps54
   go_wp2_with (go_at_call 52;refine (gFormed_no b hm HB.out _).mono ?_;rintro e w' ⟨rfl,rfl⟩)
   go_ret
   exact ⟨rfl,rfl⟩
 · obtain ⟨k,h1,h2,rfl⟩:=frm_yes hb
   have hr:grsI (64*(k:Int))=k:=by unfold grsI;rw[if_pos hb];omega
   rw[hr]
   exact gGroups_yes k h1 h2 w
theorem gGroup_any (n:Int) (hm:n<=9223372036854775807) (w:World):Calls Tryz.prog 180 #[.int .i64 n] w fun e w'=>e=.returned (.int .i64 (grpI n))/\w=w':=by
 by_cases h:n<0
 · have hr:grpI n= -1:=if_pos h
   rw[hr];clear hr
   go_enter Tryz.func180,Tryz.ntmps180
   go_wp2
   go_ret
   exact ⟨rfl,rfl⟩
 · have hr:grpI n=n / 64:=if_neg h
   rw[hr];clear hr
   have h0:0<=n:=by omega
   go_enter Tryz.func180,Tryz.ntmps180
   go_wp2
   go_ret
   exact ⟨rfl,rfl⟩
theorem gPossible_yes (g:Int) (h1:0<=g) (h2:g<12) (w:World):Calls Tryz.prog 143 #[.int .i64 g] w fun e w'=>e=.returned (.bool true)/\w=w':=by
 go_enter Tryz.func143,Tryz.ntmps143
 go_wp2
 go_ret
 exact ⟨rfl,rfl⟩
theorem gPossible_no (g:Int) (h:¬ (0<=g/\g<12)) (w:World):Calls Tryz.prog 143 #[.int .i64 g] w fun e w'=>e=.returned (.bool false)/\w=w':=by
 by_cases h0:0<=g
 · have h1:¬ g<12:=fun h2=>h ⟨h0,h2⟩
   go_enter Tryz.func143,Tryz.ntmps143
   go_wp2
   go_ret
   exact ⟨rfl,rfl⟩
 · go_enter Tryz.func143,Tryz.ntmps143
   go_wp2
   go_ret
   exact ⟨rfl,rfl⟩
theorem gDesc_any (g:Int) (w:World):Calls Tryz.prog 94 #[.int .i64 g] w fun e w'=>e=.returned (.int .i64 (dscI g))/\w=w':=by
 by_cases h:0<=g/\g<12
 · obtain ⟨h1,h2⟩:=h
   by_cases h3:g=0
   · subst h3
     rw[show dscI 0=1 from rfl]
     go_enter Tryz.func94,Tryz.ntmps94
     go_wp2_with (go_at_call 143;refine (gPossible_yes 0 (by decide) (by decide) _).mono ?_;rintro e w' ⟨rfl,rfl⟩)
     go_ret
     exact ⟨rfl,rfl⟩
   · have hr:dscI g=g*64:=by unfold dscI;rw[if_pos ⟨h1,h2⟩,if_neg h3]
     rw[hr]
     have h3':(g==0)=false:=by simp[h3]
     clear hr h3
     go_enter Tryz.func94,Tryz.ntmps94
     go_wp2_with (go_at_call 143;refine (gPossible_yes g h1 h2 _).mono ?_;rintro e w' ⟨rfl,rfl⟩)
     go_ret
     exact ⟨rfl,rfl⟩
 · have hr:dscI g= -1:=if_neg h
   rw[hr]
   have H:=Lib.hid h
   clear hr h
   go_enter Tryz.func94,Tryz.ntmps94
   go_wp2_with (go_at_call 143;refine (gPossible_no g H.out _).mono ?_;rintro e w' ⟨rfl,rfl⟩)
   go_ret
   exact ⟨rfl,rfl⟩
theorem dsc_bd (g:Int) (h1:0<=g) (h2:g<12):0<=dscI g/\dscI g<=704:=by
 unfold dscI;rw[if_pos ⟨h1,h2⟩];split <;> omega
theorem gOwners_any (g:Int) (w:World):Calls Tryz.prog 95 #[.int .i64 g] w fun e w'=>e=.returned (.int .i64 (ownI g))/\w=w':=by
 by_cases h:0<=g/\g<12
 · have hr:ownI g=dscI g+1:=if_pos h
   rw[hr]
   obtain ⟨h1,h2⟩:=h
   obtain ⟨d1,d2⟩:=dsc_bd g h1 h2
   clear hr
   go_enter Tryz.func95,Tryz.ntmps95
   go_wp2_with (first
    |(go_at_call 143;refine (gPossible_yes g h1 h2 _).mono ?_;rintro e w' ⟨rfl,rfl⟩)
    |(go_at_call 94;refine (gDesc_any g _).mono ?_;rintro e w' ⟨rfl,rfl⟩))
   go_ret
   exact ⟨rfl,rfl⟩
 · have hr:ownI g= -1:=if_neg h
   rw[hr]
   have H:=Lib.hid h
   clear hr h
   go_enter Tryz.func95,Tryz.ntmps95
   go_wp2_with (go_at_call 143;refine (gPossible_no g H.out _).mono ?_;rintro e w' ⟨rfl,rfl⟩)
   go_ret
   exact ⟨rfl,rfl⟩
theorem gCopy_any (w:World):Calls Tryz.prog 182 #[] w fun e w'=>e=.returned (.int .i64 63)/\w=w':=by
 go_enter Tryz.func182,Tryz.ntmps182
 go_wp2
 go_ret
 exact ⟨rfl,rfl⟩
def jrnB (n:Int):Bool:=decide (3<=n/\n<43)
theorem gJournal_any (n:Int) (w:World):Calls Tryz.prog 181 #[.int .i64 n] w fun e w'=>e=.returned (.bool (jrnB n))/\w=w':=by
 by_cases h0:3<=n
 · by_cases h1:n<43
   · rw[show jrnB n=true from decide_eq_true ⟨h0,h1⟩]
     go_enter Tryz.func181,Tryz.ntmps181
     go_wp2
     go_ret
     exact ⟨rfl,rfl⟩
   · rw[show jrnB n=false from decide_eq_false (by omega)]
     go_enter Tryz.func181,Tryz.ntmps181
     go_wp2
     go_ret
     exact ⟨rfl,rfl⟩
 · rw[show jrnB n=false from decide_eq_false (by omega)]
   go_enter Tryz.func181,Tryz.ntmps181
   go_wp2
   go_ret
   exact ⟨rfl,rfl⟩
theorem gOpen_yes (k:Nat) (h1:1<=k) (h2:k<=12) (w:World):Calls Tryz.prog 30 #[.int .i64 (64*(k:Int))] w fun e w'=>e=.returned (.int .i64 (62*(k:Int)-42))/\w=w':=by
 go_enter Tryz.func30,Tryz.ntmps30
 go_wp2_with (first
  |(go_at_call 52;refine (gFormed_yes k h1 h2 _).mono ?_;rintro e w' ⟨rfl,rfl⟩)
  |(go_at_call 54;refine (gGroups_yes k h1 h2 _).mono ?_;rintro e w' ⟨rfl,rfl⟩))
 go_ret
 exact ⟨ret_i (by omega),rfl⟩
theorem gFixed_no (n:Int) (hm:n<=9223372036854775807) (h:¬ (0<=grpI n/\grpI n<12)) (w:World):Calls Tryz.prog 146 #[.int .i64 n] w fun e w'=>e=.returned (.bool (fixB n))/\w=w':=by
 have hr:fixB n=false:=by
  unfold fixB;refine decide_eq_false ?_
  unfold grpI at h;split at h <;> omega
 rw[hr]
 have H:=Lib.hid h
 clear hr h
 go_enter Tryz.func146,Tryz.ntmps146
 go_wp2_with (first
  |(go_at_call 180;refine (gGroup_any n hm _).mono ?_;rintro e w' ⟨rfl,rfl⟩)
  |(go_at_call 143;refine (gPossible_no _ H.out _).mono ?_;rintro e w' ⟨rfl,rfl⟩))
 go_ret
 exact ⟨rfl,rfl⟩
theorem fix_is (n:Int) (h1:0<=grpI n) (h2:grpI n<12):fixB n=(((((n==0) || (n==dscI (grpI n))) || (n==ownI (grpI n))) || jrnB n) || (n==63)):=by
 have hn:0<=n:=by unfold grpI at h1;split at h1 <;> omega
 have hg:grpI n=n / 64:=by unfold grpI;rw[if_neg (by omega)]
 rw[hg] at h1 h2 |-
 rw[Bool.eq_iff_iff]
 unfold fixB jrnB ownI dscI
 have hc:0<=n / 64/\n / 64<12:=⟨h1,h2⟩
 simp only[if_pos hc,decide_eq_true_eq,Bool.or_eq_true,beq_iff_eq]
 by_cases h0:n / 64=0
 · simp only[if_pos h0];omega
 · simp only[if_neg h0];omega
theorem gFixed_yes (n:Int) (hm:n<=9223372036854775807) (h1:0<=grpI n) (h2:grpI n<12) (w:World):Calls Tryz.prog 146 #[.int .i64 n] w fun e w'=>e=.returned (.bool (fixB n))/\w=w':=by
 rw[fix_is n h1 h2]
 obtain ⟨G,hG⟩:∃ G,G=grpI n:=⟨_,rfl⟩
 have HGG:Calls Tryz.prog 180 #[.int .i64 n] w fun e w'=>e=.returned (.int .i64 G)/\w=w':=by rw[hG];exact gGroup_any n hm w
 rw[<- hG] at h1 h2 |-
 clear hG
 obtain ⟨D,hD⟩:∃ D,D=dscI G:=⟨_,rfl⟩
 have HDD:Calls Tryz.prog 94 #[.int .i64 G] w fun e w'=>e=.returned (.int .i64 D)/\w=w':=by rw[hD];exact gDesc_any G w
 rw[<- hD]
 clear hD
 obtain ⟨O,hO⟩:∃ O,O=ownI G:=⟨_,rfl⟩
 have HOO:Calls Tryz.prog 95 #[.int .i64 G] w fun e w'=>e=.returned (.int .i64 O)/\w=w':=by rw[hO];exact gOwners_any G w
 rw[<- hO]
 clear hO
 obtain ⟨J,hJ⟩:∃ J,J=jrnB n:=⟨_,rfl⟩
 have HJJ:Calls Tryz.prog 181 #[.int .i64 n] w fun e w'=>e=.returned (.bool J)/\w=w':=by rw[hJ];exact gJournal_any n w
 rw[<- hJ]
 clear hJ
 rcases hb0:(n==0) with _|_
 · rcases hb1:(n==D) with _|_
   · rcases hb2:(n==O) with _|_
     · cases J
       · go_enter Tryz.func146,Tryz.ntmps146
         go_wp2_with (first
          |(go_at_call 180;refine HGG.mono ?_;rintro e w' ⟨rfl,rfl⟩)
          |(go_at_call 143;refine (gPossible_yes G h1 h2 _).mono ?_;rintro e w' ⟨rfl,rfl⟩)
          |(go_at_call 94;refine HDD.mono ?_;rintro e w' ⟨rfl,rfl⟩)
          |(go_at_call 95;refine HOO.mono ?_;rintro e w' ⟨rfl,rfl⟩)
          |(go_at_call 181;refine HJJ.mono ?_;rintro e w' ⟨rfl,rfl⟩)
          |(go_at_call 182;refine (gCopy_any _).mono ?_;rintro e w' ⟨rfl,rfl⟩))
         go_ret
         exact ⟨by simp,rfl⟩
       · go_enter Tryz.func146,Tryz.ntmps146
         go_wp2_with (first
          |(go_at_call 180;refine HGG.mono ?_;rintro e w' ⟨rfl,rfl⟩)
          |(go_at_call 143;refine (gPossible_yes G h1 h2 _).mono ?_;rintro e w' ⟨rfl,rfl⟩)
          |(go_at_call 94;refine HDD.mono ?_;rintro e w' ⟨rfl,rfl⟩)
          |(go_at_call 95;refine HOO.mono ?_;rintro e w' ⟨rfl,rfl⟩)
          |(go_at_call 181;refine HJJ.mono ?_;rintro e w' ⟨rfl,rfl⟩))
         go_ret
         exact ⟨rfl,rfl⟩
     · go_enter Tryz.func146,Tryz.ntmps146
       go_wp2_with (first
        |(go_at_call 180;refine HGG.mono ?_;rintro e w' ⟨rfl,rfl⟩)
        |(go_at_call 143;refine (gPossible_yes G h1 h2 _).mono ?_;rintro e w' ⟨rfl,rfl⟩)
        |(go_at_call 94;refine HDD.mono ?_;rintro e w' ⟨rfl,rfl⟩)
        |(go_at_call 95;refine HOO.mono ?_;rintro e w' ⟨rfl,rfl⟩))
       go_ret
       exact ⟨rfl,rfl⟩
   · go_enter Tryz.func146,Tryz.ntmps146
     go_wp2_with (first
      |(go_at_call 180;refine HGG.mono ?_;rintro e w' ⟨rfl,rfl⟩)
      |(go_at_call 143;refine (gPossible_yes G h1 h2 _).mono ?_;rintro e w' ⟨rfl,rfl⟩)
      |(go_at_call 94;refine HDD.mono ?_;rintro e w' ⟨rfl,rfl⟩))
     go_ret
     exact ⟨rfl,rfl⟩
 · go_enter Tryz.func146,Tryz.ntmps146
   go_wp2_with (first
    |(go_at_call 180;refine HGG.mono ?_;rintro e w' ⟨rfl,rfl⟩)
    |(go_at_call 143;refine (gPossible_yes G h1 h2 _).mono ?_;rintro e w' ⟨rfl,rfl⟩))
   go_ret
   exact ⟨rfl,rfl⟩
theorem gFixed_any (n:Int) (hm:n<=9223372036854775807) (w:World):Calls Tryz.prog 146 #[.int .i64 n] w fun e w'=>e=.returned (.bool (fixB n))/\w=w':=by
 by_cases h:0<=grpI n/\grpI n<12
 · exact gFixed_yes n hm h.1 h.2 w
 · exact gFixed_no n hm h w
theorem gFixed_is (n:Int) (hm:n<=9223372036854775807) (B:Bool) (h:fixB n=B) (w:World):Calls Tryz.prog 146 #[.int .i64 n] w fun e w'=>e=.returned (.bool B)/\w=w':=by
 rw[<- h];exact gFixed_any n hm w
section
variable {α:Type}{f:α->List Value}{s:Nat}
theorem flat_length:∀ {L:List α},(∀ x∈L,(f x).length=s)->(L.flatMap f).length=L.length*s
 |[],_=>by simp
 |x :: L,h=>by
  rw[List.flatMap_cons,List.length_append,flat_length (fun z hz=>h z (List.mem_cons_of_mem _ hz)),h x (by simp),List.length_cons,Nat.succ_mul];omega
theorem flat_get:∀ {L:List α},(∀ x∈L,(f x).length=s)->∀ (i:Nat) (hi:i<L.length),((L.flatMap f).drop (i*s)).take s=f L[i]
 |[],_,i,hi=>by simp at hi
 |x :: L,h,0,_=>by
  rw[List.flatMap_cons,Nat.zero_mul,List.drop_zero,List.take_append_of_le_length (by rw[h x (by simp)];exact Nat.le_refl _),<- h x (by simp),List.take_length];rfl
 |x :: L,h,i+1,hi=>by
  have hx:=h x (by simp)
  rw[List.flatMap_cons,show (i+1)*s=(f x).length+i*s by rw[hx,Nat.succ_mul];omega,List.drop_length_add_append]
  exact flat_get (fun z hz=>h z (List.mem_cons_of_mem _ hz)) i (by simpa using hi)
theorem flat_set:∀ {L:List α},(∀ x∈L,(f x).length=s)->∀ (i:Nat) (hi:i<L.length) (y:α),(f y).length=s->splice (L.flatMap f) (i*s) (f y)=(L.set i y).flatMap f
 |[],_,i,hi,_,_=>by simp at hi
 |x :: L,h,0,_,y,hy=>by
  have hx:=h x (by simp)
  simp only[splice,Nat.zero_mul,List.take_zero,List.nil_append,Nat.zero_add,List.set_cons_zero,List.flatMap_cons]
  rw[hy,<- hx,List.drop_left]
 |x :: L,h,i+1,hi,y,hy=>by
  have hx:=h x (by simp)
  have ih:=flat_set (fun z hz=>h z (List.mem_cons_of_mem _ hz)) i (by simpa using hi) y hy
  rw[List.set_cons_succ,List.flatMap_cons,List.flatMap_cons,<- ih]
  simp only[splice]
  rw[show (i+1)*s=(f x).length+i*s by rw[hx,Nat.succ_mul];omega,List.take_length_add_append,Nat.add_assoc,List.drop_length_add_append,List.append_assoc]
end
theorem setCells_row {w:World}{g o:Nat}{t:TypeId}{vs cur:List Value} (hg:w.heap[g]? =some (.cells cur.toArray t (0,0))) (hl:o+vs.length<=cur.length) (h1:∀ v∈vs,v.oneCell'=true):
 w.setCells g o vs=w.setRow g (splice cur o vs).toArray:=by
 have a:=run_storeCells_cells (P:=Tryz.prog) g o vs 0 w
  (fun j hj=>by rw[cell_of_row _ _ _ _ _ _ hg];simp;omega)
  (fun j hj=>by simp[World.frozen?,hg]) h1
 have b:=run_storeCells_at Tryz.prog g o t vs 0 cur.toArray w hg (by simpa using hl) h1
 rw[a] at b
 injection b with _ b
 simpa [splice] using b
theorem there_row {w:World}{g o n:Nat}{t:TypeId}{cur:List Value} (hg:w.heap[g]? =some (.cells cur.toArray t (0,0))) (hl:o+n<=cur.length):w.there g o n:=fun j hj=>by
 refine ⟨by rw[cell_of_row _ _ _ _ _ _ hg];simp;omega,by simp[World.frozen?,hg]⟩
theorem range_row {w:World}{g o:Nat}{t:TypeId}{vs cur:List Value} (hg:w.heap[g]? =some (.cells cur.toArray t (0,0))) (h:(cur.drop o).take vs.length=vs):w.rangeAt g o vs:=fun j v hv=>by
 rw[cell_of_row _ _ _ _ _ _ hg]
 have hj:=(List.getElem?_eq_some_iff.1 hv).1
 rw[<- h,List.getElem?_take,if_pos hj,List.getElem?_drop] at hv
 simpa using hv
end Go.Proofs.YtedabomlfcghoaaGreat
namespace Go.Proofs.YtedabomlfcghoaaGreat
set_option maxRecDepth 100000
open Go.RowKit BM
def OwSl (w:World) (v:Value) (O:List (Int × Int)):Prop:=
 OwB O/\((v=.slice none 0 0/\O=[])\/∃ a cap,v=.slice (some a) O.length cap/\∀ j,j<O.length->a.block<w.heap.size/\a.spot=none/\
  w.cell? ⟨a.block,a.off+j*2,none⟩=some (.int .u16 (O.getD j (0,0)).1)/\w.cell? ⟨a.block,a.off+j*2+1,none⟩=some (.int .u16 (O.getD j (0,0)).2))
theorem OwSl.below {w w':World}{v:Value}{O:List (Int × Int)} (h:OwSl w v O) (hb:Below w.heap.size w w'):OwSl w' v O:=by
 refine ⟨h.1,?_⟩
 rcases h.2 with h| ⟨a,cap,hv,hc⟩
 · exact .inl h
 · refine .inr ⟨a,cap,hv,fun j hj=>?_⟩
   obtain ⟨h1,h2,h3,h4⟩:=hc j hj
   exact ⟨Nat.lt_of_lt_of_le h1 hb.size,h2,by rw[hb.cell (p:=⟨a.block,a.off+j*2,none⟩) h1,h3],by rw[hb.cell (p:=⟨a.block,a.off+j*2+1,none⟩) h1,h4]⟩
theorem OwSl.shape {w:World}{v:Value}{O:List (Int × Int)} (h:OwSl w v O):∃ ao cap,v=.slice ao O.length cap:=by
 rcases h.2 with ⟨hv,hk⟩| ⟨a,cap,hv,_⟩
 · exact ⟨none,0,by rw[hv,hk];rfl⟩
 · exact ⟨some a,cap,hv⟩
theorem OwSl.at {w:World}{v:Value}{O:List (Int × Int)} (h:OwSl w v O) (hO:0<O.length):∃ b off cap,v=.slice (some ⟨b,off,none⟩) O.length cap/\b<w.heap.size/\
 ∀ j,j<O.length->w.cell? ⟨b,off+j*2,none⟩=some (.int .u16 (O.getD j (0,0)).1)/\w.cell? ⟨b,off+j*2+1,none⟩=some (.int .u16 (O.getD j (0,0)).2):=by
 rcases h.2 with ⟨_,hk⟩| ⟨⟨b,off,spot⟩,cap,hv,hc⟩
 · rw[hk] at hO;simp at hO
 · obtain ⟨h1,h2,_⟩:=hc 0 hO
   obtain rfl:spot=none:=h2
   exact ⟨b,off,cap,hv,h1,fun j hj=>(hc j hj).2.2⟩
def cO (x:Int × Int):List Value:=[.int .u16 x.1,.int .u16 x.2]
def ownC (O:List (Int × Int)):List Value:=O.flatMap cO
theorem cO_len:∀ x:Int × Int,(cO x).length=2:=fun _=>rfl
theorem ownC_length (O:List (Int × Int)):(ownC O).length=O.length*2:=flat_length fun x _=>cO_len x
theorem ownC_append (O P:List (Int × Int)):ownC (O ++ P)=ownC O ++ ownC P:=List.flatMap_append
theorem ownC_get (O:List (Int × Int)) (j:Nat) (h:j<O.length):(ownC O)[j*2]? =some (.int .u16 (O.getD j (0,0)).1)/\(ownC O)[j*2+1]? =some (.int .u16 (O.getD j (0,0)).2):=by
 have hg:=flat_get (f:=cO) (s:=2) (L:=O) (fun x _=>cO_len x) j h
 have e:O.getD j (0,0)=O[j]:=by simp[List.getD_eq_getElem?_getD,h]
 rw[e]
 have h0:=congrArg (fun z=>z[0]?) hg
 have h1:=congrArg (fun z=>z[1]?) hg
 simp only[List.getElem?_take,List.getElem?_drop,Nat.add_zero] at h0 h1
 rw[if_pos (by omega)] at h0 h1
 exact ⟨h0,h1⟩
def OwR (w:World) (B:Nat) (v:Value) (O:List (Int × Int)):Prop:=OwB O/\w.ownsRow B 109 2 v O.length (ownC O)
theorem OwR.sl {w:World}{B:Nat}{v:Value}{O:List (Int × Int)} (h:OwR w B v O):OwSl w v O:=by
 refine ⟨h.1,?_⟩
 rcases h.2.2 with ⟨hv,hl⟩| ⟨g,cap,cur,hv,hg,hh,hnc,hcm,hcs,ht⟩
 · exact .inl ⟨hv,List.eq_nil_of_length_eq_zero hl⟩
 · refine .inr ⟨_,cap,hv,fun j hj=>⟨(Array.getElem?_eq_some_iff.1 hh).1,rfl,?_⟩⟩
   obtain ⟨h1,h2⟩:=ownC_get O j hj
   rw[<- ht,List.getElem?_take] at h1 h2
   rw[if_pos (by omega)] at h1 h2
   rw[Nat.zero_add,cell_of_row _ _ _ _ _ _ hh,cell_of_row _ _ _ _ _ _ hh]
   exact ⟨by simpa using h1,by simpa using h2⟩
theorem OwR.more {w:World}{B B':Nat}{v:Value}{O:List (Int × Int)} (h:OwR w B v O) (hB:B'<=B):OwR w B' v O:=by
 refine ⟨h.1,h.2.1,?_⟩
 rcases h.2.2 with h| ⟨g,cap,cur,hv,hg,r⟩
 · exact .inl h
 · exact .inr ⟨g,cap,cur,hv,Nat.le_trans hB hg,r⟩
theorem OwR.below {w w':World}{B:Nat}{v:Value}{O:List (Int × Int)} (h:OwR w B v O) (hb:Below w.heap.size w w'):OwR w' B v O:=by
 refine ⟨h.1,h.2.1,?_⟩
 rcases h.2.2 with h| ⟨g,cap,cur,hv,hg,hh,r⟩
 · exact .inl h
 · exact .inr ⟨g,cap,cur,hv,hg,by rw[hb.block g (Array.getElem?_eq_some_iff.1 hh).1];exact hh,r⟩
theorem OwR.of_row {w:World}{B g:Nat}{O:List (Int × Int)} (hb:OwB O) (hB:B<=g) (hg:w.heap[g]? =some (.cells (ownC O).toArray 109 (0,0))) (hm:O.length<=maxLen):
 OwR w B (.slice (some ⟨g,0,none⟩) O.length O.length) O:=by
 refine ⟨hb,ownC_length O,.inr ⟨g,O.length,_,rfl,hB,hg,Nat.le_refl _,hm,by simp[ownC_length],?_⟩⟩
 rw[List.take_of_length_le (by simp[ownC_length])]
theorem infoOw:(Tryz.prog.info? 109).map (fun i=>(i.zero,i.size,i.bytes))=some (some (.agg #[.int .u16 0,.int .u16 0]),2,4):=by kernel_rfl
theorem made_ow (n:Nat):madeCells (Value.agg #[.int .u16 0,.int .u16 0]).cells (n*2)=(ownC (List.replicate n (0,0))).toArray:=by
 have e:ownC (List.replicate n (0,0))=List.replicate (n*2) (.int .u16 0):=by
  apply List.ext_getElem?
  intro i
  by_cases h:i<n*2
  · have h2:i / 2<(List.replicate n ((0:Int),(0:Int))).length:=by simp;omega
    have hz:(List.replicate n ((0:Int),(0:Int))).getD (i / 2) (0,0)=(0,0):=by
     rw[List.getD_eq_getElem?_getD,List.getElem?_replicate];split <;> rfl
    obtain ⟨h3,h4⟩:=ownC_get _ _ h2
    rw[hz] at h3 h4
    rw[List.getElem?_replicate,if_pos h]
    rcases Nat.mod_two_eq_zero_or_one i with e|e
    · rw[show i=i / 2*2 by omega];exact h3
    · rw[show i=i / 2*2+1 by omega];exact h4
  · rw[List.getElem?_eq_none (by rw[ownC_length];simp;omega),List.getElem?_eq_none (by simp;omega)]
 rw[e]
 apply Array.ext
 · simp[size_madeCells]
 · intro i h1 h2
   simp only[madeCells,Value.cells,Array.getElem_map,Array.getElem_range]
   simp
   have:i%2=0\/i%2=1:=by omega
   rcases this with e|e <;> rw[e] <;> rfl
theorem wpList_make_ow (w:World) {ops:Array Oper}{rest:List Oper}{o:Oper}{a:Act}{Q:Exit->Act->World->Prop}
 (hg:o.guard=none) (l c:Operand) (hop:o.op=Op.makeSlice 105 l c) (C:Int) (n:Nat) (hl:a.eval l=.int .i64 C) (hc:a.eval c=.int .i64 C) (hC:C=n) (hn:n<=1000000)
 (hK:wpList Tryz.prog ops Q rest (a.put o.dst (.slice (some ⟨w.heap.size,0,none⟩) n n)) (w.alloc (.cells (ownC (List.replicate n (0,0))).toArray 109))):
 wpList Tryz.prog ops Q (o :: rest) a w:=by
 refine wpList_plain hg fun K hK'=>?_
 obtain ⟨i,h2,h3,h4,h5⟩:=info_parts infoOw
 subst hC
 have hrun:=run_make (P:=Tryz.prog) w 105 109 i (.agg #[.int .u16 0,.int .u16 0]) Tryz.underlying105 h2 h3 .i64 .i64 n n (by omega) (by omega) (by rw[h5];omega) (by omega)
 unfold Oper.wp
 simp only[Int.toNat_natCast,h4,made_ow] at hrun
 simp[execOp,hop,hl,hc,hrun,Result.andThen]
 exact hK' _ _ hK
theorem wpList_store_ow {ops:Array Oper}{rest:List Oper}{op:Oper}{a:Act}{w:World}{Q:Exit->Act->World->Prop} (hgd:op.guard=none) (x y:Operand) (ho:op.op=.store 109 x y)
 (g k:Nat) (O:List (Int × Int)) (i j:Int) (hx:a.eval x=.pointer (some ⟨g,k*2,none⟩)) (hy:a.eval y=.agg #[.int .u16 i,.int .u16 j])
 (hg:w.heap[g]? =some (.cells (ownC O).toArray 109 (0,0))) (hk:k<O.length)
 (h:∀ w',Wrote w w' g->w'.heap[g]? =some (.cells (ownC (O.set k (i,j))).toArray 109 (0,0))->wpList Tryz.prog ops Q rest (a.put op.dst undef) w'):wpList Tryz.prog ops Q (op :: rest) a w:=by
 have hs:(Tryz.prog.info? 109).map (·.size)=some 2:=by kernel_rfl
 have hl:k*2+(cO (i,j)).length<=(ownC O).length:=by rw[ownC_length,cO_len];omega
 have h1:∀ v∈cO (i,j),v.oneCell'=true:=fun v hv=>by simp[cO] at hv;rcases hv with rfl|rfl <;> rfl
 refine wpList_store_mid hgd 109 x y ho g (k*2) #[.int .u16 i,.int .u16 j] hx hy (there_row hg hl) (by rw[hs];rfl) (all_oneCell_toArray (cs:=cO (i,j)) h1) ?_
 have e:=setCells_row hg hl h1
 rw[show (#[Value.int .u16 i,Value.int .u16 j]:Array Value).toList=cO (i,j) from rfl,e]
 refine h _ (Wrote.setRow _ _ _) ?_
 rw[setRow_heap _ _ _ _ _ _ hg,ownC,flat_set (f:=cO) (s:=2) (fun x _=>cO_len x) k hk (i,j) (cO_len _)]
 rfl
theorem wpList_append_ow (w1:World) (i j:Int) (hi:0<=i/\i<=65535) (hj:0<=j/\j<=65535) {ops:Array Oper}{rest:List Oper}{o:Oper}{a:Act}{Q:Exit->Act->World->Prop} (hgd:o.guard=none) (s y:Operand)
 (ho:o.op=.call { callee:=.builtin .append,args:=#[s,y],argTypes:=#[105,105] })
 (B:Nat) (v:Value) (O:List (Int × Int)) (hs:a.eval s=v) (hown:OwR w1 B v O) (hO:O.length<=1000000) (hy:a.eval y=.slice (some ⟨w1.heap.size,0,none⟩) 1 1) (hB:B<=w1.heap.size)
 (h:∀ v' w',OwR w' B v' (O ++ [(i,j)])->Below B w1 w'->wpList Tryz.prog ops Q rest (a.put o.dst v') w'):wpList Tryz.prog ops Q (o :: rest) a (w1.alloc (.cells #[.int .u16 i,.int .u16 j] 109)):=by
 obtain ⟨t,h2,h3,h4,h5⟩:=info_parts infoOw
 have hbel:Below w1.heap.size w1 (w1.alloc (.cells #[.int .u16 i,.int .u16 j] 109)):=below_box _ _
 have hnew:(w1.alloc (.cells #[.int .u16 i,.int .u16 j] 109)).heap[w1.heap.size]? =some (.cells #[.int .u16 i,.int .u16 j] 109 (0,0)):=heap_alloc_new w1 _
 have hf:=hown.below hbel
 refine wpList_append_own _ hgd s y 105 ho B 109 t _ 2 4 Tryz.underlying105 h2 h3 h4 h5 rfl (by decide) v O.length _ hs hf.2 ⟨w1.heap.size,0,none⟩ 1 1 [.int .u16 i,.int .u16 j] hy rfl ?_ ?_ (by simp only[maxLen];omega) (by omega) (by simp;omega) fun v' w' h6 h7 _=>?_
 · intro m u hm
   have hm2:m<2:=by simpa using (List.getElem?_eq_some_iff.1 hm).1
   rw[Addr.add_lit,Nat.zero_add,cell_of_row _ _ _ _ _ _ hnew,<- hm]
   have:m=0\/m=1:=by omega
   rcases this with rfl|rfl <;> rfl
 · intro u hu
   simp at hu
   rcases hu with rfl|rfl <;> rfl
 · refine h v' w' ⟨owB_of fun m hm=>?_,?_⟩ ((hbel.mono hB).trans ((Below.refl _ _).grown h7 (by simp;omega) fun k hk=>(World.ownsRow.lt hf.2 k hk).1))
   · by_cases e:m<O.length
     · have:=hown.1 m
       rw[List.getD_eq_getElem?_getD,List.getElem?_append_left e,<- List.getD_eq_getElem?_getD];exact this
     · have e2:m=O.length:=by simp at hm;omega
       subst e2
       rw[List.getD_eq_getElem?_getD,List.getElem?_append_right (Nat.le_refl _)];simpa using ⟨hi,hj⟩
   · rw[List.length_append,ownC_append];exact h6
theorem grPoss_yes (g:Int) (h1:0<=g) (h2:g<12) (w:World):Calls Tryz.prog 183 #[.int .i64 g] w fun e w'=>e=.returned (.bool true)/\w=w':=by
 go_enter Tryz.func183,Tryz.ntmps183
 go_wp2
 go_ret
 exact ⟨rfl,rfl⟩
theorem grForm_any (i a:Int) (hi0:0<=i) (hi:i<=65535) (ha0:0<=a) (ha:a<=65535) (w:World):
 Calls Tryz.prog 179 #[.agg #[.int .u16 i,.int .u16 a]] w fun e w'=>e=.returned (.bool (frmO i a))/\Below w.heap.size w w':=by
 have hob:=below_box w (.cells #[.int .u16 i,.int .u16 a] 109)
 obtain ⟨B,hB⟩:∃ B,B=frmO i a:=⟨_,rfl⟩
 rw[<- hB]
 unfold frmO at hB
 by_cases h0:i=0
 · rw[if_pos (.inl h0)] at hB
   subst h0
   cases hd:decide (a=0)
   all_goals
    rw[hd] at hB
    have HB:=Lib.hid hB
    have hda:(a==0)=_:=hd
    clear hB hd
    go_enter Tryz.func179,Tryz.ntmps179
    go_wp2
    go_ret
    exact ⟨by rw[HB.out];rfl,hob⟩
 · have e0:(i==0)=false:=by simpa using h0
   by_cases h1:i=65535
   · rw[if_pos (.inr h1)] at hB
     subst h1
     cases hd:decide (a=0)
     all_goals
      rw[hd] at hB
      have HB:=Lib.hid hB
      have hda:(a==0)=_:=hd
      clear hB hd h0
      go_enter Tryz.func179,Tryz.ntmps179
      go_wp2
      go_ret
      exact ⟨by rw[HB.out];rfl,hob⟩
   · rw[if_neg (by omega)] at hB
     have e1:(i==65535)=false:=by simpa using h1
     by_cases h2:i=65534
     · rw[if_pos h2] at hB
       subst h2
       cases hd:decide (a<6)
       all_goals
        rw[hd] at hB
        have HB:=Lib.hid hB
        clear hB h0 h1
        go_enter Tryz.func179,Tryz.ntmps179
        go_wp2
        go_ret
        exact ⟨by rw[HB.out];rfl,hob⟩
     · rw[if_neg h2] at hB
       have e2:(i==65534)=false:=by simpa using h2
       clear h0 h1 h2
       by_cases h3:i<48
       · by_cases h4:a<138
         · have HB:Hid (B=true):=Lib.hid (by rw[hB];simp[h3,h4])
           clear hB
           go_enter Tryz.func179,Tryz.ntmps179
           go_wp2
           go_ret
           exact ⟨by rw[HB.out];rfl,hob⟩
         · have hda:(a==65535)=B:=by rw[hB,decide_eq_true h3,decide_eq_false h4];rfl
           have hb2:B=true\/B=false:=by cases B <;> simp
           clear hB
           rcases hb2 with rfl|rfl
           all_goals
            go_enter Tryz.func179,Tryz.ntmps179
            go_wp2
            go_ret
            exact ⟨rfl,hob⟩
       · have HB:Hid (B=false):=Lib.hid (by rw[hB];simp[h3])
         clear hB
         go_enter Tryz.func179,Tryz.ntmps179
         go_wp2
         go_ret
         exact ⟨by rw[HB.out];rfl,hob⟩
theorem grForm_is (i a:Int) (hi:0<=i/\i<=65535) (ha:0<=a/\a<=65535) (B:Bool) (h:frmO i a=B) (w:World):
 Calls Tryz.prog 179 #[.agg #[.int .u16 i,.int .u16 a]] w fun e w'=>e=.returned (.bool B)/\Below w.heap.size w w':=by
 rw[<- h];exact grForm_any i a hi.1 hi.2 ha.1 ha.2 w
theorem grAll_len {w:World} (ao:Option Addr) (len cap:Nat) (h:len≠64):Calls Tryz.prog 145 #[.slice ao len cap] w fun e w'=>e=.returned (.bool false)/\w=w':=by
 have hne:((len:Int) != 64)=true:=by simp;omega
 go_enter Tryz.func145,Tryz.ntmps145
 go_wp2
 go_ret
 exact ⟨rfl,rfl⟩
theorem grAll_64 {w:World}{b off cap:Nat}{O:List (Int × Int)} (hO:O.length=64) (hB:OwB O) (hb:b<w.heap.size)
 (hc:∀ j,j<O.length->w.cell? ⟨b,off+j*2,none⟩=some (.int .u16 (O.getD j (0,0)).1)/\w.cell? ⟨b,off+j*2+1,none⟩=some (.int .u16 (O.getD j (0,0)).2)):
 Calls Tryz.prog 145 #[.slice (some ⟨b,off,none⟩) 64 cap] w fun e w'=>e=.returned (.bool (allO O))/\Below w.heap.size w w':=by
 obtain ⟨R,hR⟩:∃ R,R=allO O:=⟨_,rfl⟩
 rw[<- hR]
 have HC:=Lib.hid hc
 have HO:=Lib.hid hO
 have HBB:=Lib.hid hB
 have hRR:R=frmK O 64:=by rw[hR,allO,hO];rfl
 have HR:=Lib.hid hRR
 clear hc hO hB hR hRR
 go_enter Tryz.func145,Tryz.ntmps145
 go_wp2
 go_loopw [10] (fun i wr=>∃ k:Nat,k<=64/\i=.int .i64 k/\Hid (frmK O k=true)/\Below w.heap.size w wr) (fun i _=>64-(intOf i).toNat)
 case atStart=>exact ⟨0,by omega,rfl,rfl,Below.refl _ _⟩
 case round=>
  obtain ⟨k,hk,rfl,HK,hbr⟩:=hrel
  by_cases hlt:k<64
  · have hck:=HC.out k (by rw[HO.out];exact hlt)
    have hbd:=HBB.out k
    have hj:frmJ O k=frmO (O.getD k (0,0)).1 (O.getD k (0,0)).2:=rfl
    obtain ⟨x,hx⟩:∃ x,x=(O.getD k (0,0)).1:=⟨_,rfl⟩
    obtain ⟨y,hy⟩:∃ y,y=(O.getD k (0,0)).2:=⟨_,rfl⟩
    rw[<- hx,<- hy] at hck hbd hj
    have c1:=(hbr.cell (p:=⟨b,off+k*2,none⟩) hb).trans hck.1
    have c2:=(hbr.cell (p:=⟨b,off+k*2+1,none⟩) hb).trans hck.2
    have ek:(k:Int)<64:=by omega
    clear hx hy hck
    cases hf:frmO x y
    · have HF:=Lib.hid hf
      rw[hf] at hj
      have HJ:=Lib.hid hj
      clear hf hj
      go_wp2_with (go_at_call 179;refine (grForm_is x y hbd.1 hbd.2 false HF.out _).mono ?_;rintro e w2 ⟨rfl,hb2⟩)
      go_ret
      exact ⟨ret_bool (by rw[HR.out,frmK_no HJ.out hlt]),(hbr.trans ((below_box _ _).mono hbr.size)).trans (hb2.mono (by have:=hbr.size;simp;omega))⟩
    · have HF:=Lib.hid hf
      rw[hf] at hj
      have HJ:=Lib.hid hj
      clear hf hj
      go_wp2_with (go_at_call 179;refine (grForm_is x y hbd.1 hbd.2 true HF.out _).mono ?_;rintro e w2 ⟨rfl,hb2⟩)
      go_roundw
      case rel=>exact ⟨k+1,by omega,by go_num,by show frmK O (k+1)=true;rw[frmK,HK.out,HJ.out];rfl,(hbr.trans ((below_box _ _).mono hbr.size)).trans (hb2.mono (by have:=hbr.size;simp;omega))⟩
      case measure=>simp[intOf];omega
  · obtain rfl:k=64:=by omega
    go_wp2
    go_ret
    exact ⟨ret_bool (by rw[HR.out,HK.out]),hbr⟩
theorem grAll_any {w:World}{v:Value}{O:List (Int × Int)} (hs:OwSl w v O):Calls Tryz.prog 145 #[v] w fun e w'=>e=.returned (.bool (allO O))/\Below w.heap.size w w':=by
 by_cases h:O.length=64
 · obtain ⟨b,off,cap,rfl,hb,hc⟩:=hs.at (by omega)
   rw[h]
   exact grAll_64 h hs.1 hb hc
 · obtain ⟨ao,cap,rfl⟩:=hs.shape
   refine (grAll_len ao _ cap h).mono fun e w' ⟨he,hw⟩=>⟨?_,by rw[<- hw];exact Below.refl _ _⟩
   rw[he,allO,decide_eq_false h];rfl
end Go.Proofs.YtedabomlfcghoaaGreat
namespace Go.Proofs.YtedabomlfcghoaaGreat
set_option maxRecDepth 100000
open Go.RowKit
theorem rFormed_any (b:Int) (hm:b<=9223372036854775807) (w:World):Calls Tryz.prog 50 #[.int .i64 b] w fun e w'=>e=.returned (.bool (frmB b))/\w=w':=by
 by_cases h1:64<=b
 · by_cases h3:b<=768
   · have h0:0<=b:=by omega
     by_cases h2:b%64=0
     · have hr:frmB b=true:=decide_eq_true (by omega)
       rw[hr]
       have h2':(b%64==0)=true:=by simp[h2]
       clear hr h2
       go_enter Tryz.func50,Tryz.ntmps50
       go_wp2
       go_ret
       exact ⟨rfl,rfl⟩
     · have hr:frmB b=false:=decide_eq_false (by omega)
       rw[hr]
       have h2':(b%64==0)=false:=by simp[h2]
       clear hr h2
       go_enter Tryz.func50,Tryz.ntmps50
       go_wp2
       go_ret
       exact ⟨rfl,rfl⟩
   · have hr:frmB b=false:=decide_eq_false (by omega)
     rw[hr]
     clear hr
     go_enter Tryz.func50,Tryz.ntmps50
     go_wp2
     go_ret
     exact ⟨rfl,rfl⟩
 · have hr:frmB b=false:=decide_eq_false (by omega)
   rw[hr]
   clear hr
   go_enter Tryz.func50,Tryz.ntmps50
   go_wp2
   go_ret
   exact ⟨rfl,rfl⟩
theorem rFormed_yes (k:Nat) (h1:1<=k) (h2:k<=12) (w:World):Calls Tryz.prog 50 #[.int .i64 (64*(k:Int))] w fun e w'=>e=.returned (.bool true)/\w=w':=by
 have:=rFormed_any (64*(k:Int)) (by omega) w
 rw[frm_mk k h1 h2] at this;exact this
theorem rFormed_no (b:Int) (hm:b<=9223372036854775807) (h:frmB b=false) (w:World):Calls Tryz.prog 50 #[.int .i64 b] w fun e w'=>e=.returned (.bool false)/\w=w':=by
 have:=rFormed_any b hm w
 rw[h] at this;exact this
theorem rGroups_any (b:Int) (hm:b<=9223372036854775807) (w:World):Calls Tryz.prog 76 #[.int .i64 b] w fun e w'=>e=.returned (.int .i64 (grsI b))/\w=w':=by
 cases hb:frmB b
 · have hr:grsI b=0:=by unfold grsI;rw[if_neg (by simp[hb])]
   rw[hr]
   have HB:=Lib.hid hb
   clear hb hr
   go_enter Tryz.func76,Tryz.ntmps76
   go_wp2_with (go_at_call 50;refine (rFormed_no b hm HB.out _).mono ?_;rintro e w' ⟨rfl,rfl⟩)
   go_ret
   exact ⟨rfl,rfl⟩
 · obtain ⟨k,h1,h2,rfl⟩:=frm_yes hb
   have hr:grsI (64*(k:Int))=k:=by unfold grsI;rw[if_pos hb];omega
   rw[hr]
   clear hr hb hm
   go_enter Tryz.func76,Tryz.ntmps76
   go_wp2_with (go_at_call 50;refine (rFormed_yes k h1 h2 _).mono ?_;rintro e w' ⟨rfl,rfl⟩)
   go_ret
   exact ⟨ret_i (by omega),rfl⟩
theorem rDesc_any (g:Int) (w:World):Calls Tryz.prog 80 #[.int .i64 g] w fun e w'=>e=.returned (.int .i64 (dscI g))/\w=w':=by
 by_cases h1:g<0
 · have hr:dscI g= -1:=if_neg (by omega)
   rw[hr];clear hr
   go_enter Tryz.func80,Tryz.ntmps80
   go_wp2
   go_ret
   exact ⟨rfl,rfl⟩
 · by_cases h2:11<g
   · have hr:dscI g= -1:=if_neg (by omega)
     rw[hr];clear hr
     go_enter Tryz.func80,Tryz.ntmps80
     go_wp2
     go_ret
     exact ⟨rfl,rfl⟩
   · by_cases h3:g=0
     · subst h3
       rw[show dscI 0=1 from rfl]
       clear h1 h2
       go_enter Tryz.func80,Tryz.ntmps80
       go_wp2
       go_ret
       exact ⟨rfl,rfl⟩
     · have hr:dscI g=g*64:=by unfold dscI;rw[if_pos ⟨by omega,by omega⟩,if_neg h3]
       rw[hr]
       have h3':(g==0)=false:=by simp[h3]
       have h4:0<=g:=by omega
       have h5:g<=11:=by omega
       clear hr h3
       go_enter Tryz.func80,Tryz.ntmps80
       go_wp2
       go_ret
       exact ⟨ret_i (by omega),rfl⟩
theorem rOwners_any (g:Int) (w:World):Calls Tryz.prog 81 #[.int .i64 g] w fun e w'=>e=.returned (.int .i64 (ownI g))/\w=w':=by
 by_cases h:0<=g/\g<12
 · have hr:ownI g=dscI g+1:=if_pos h
   rw[hr]
   obtain ⟨h1,h2⟩:=h
   obtain ⟨d1,d2⟩:=dsc_bd g h1 h2
   clear hr
   go_enter Tryz.func81,Tryz.ntmps81
   go_wp2_with (go_at_call 80;refine (rDesc_any g _).mono ?_;rintro e w' ⟨rfl,rfl⟩)
   go_ret
   exact ⟨rfl,rfl⟩
 · have hr:ownI g= -1:=if_neg h
   have hd:dscI g= -1:=if_neg h
   rw[hr]
   have HD:∀ w,Calls Tryz.prog 80 #[.int .i64 g] w fun e w'=>e=.returned (.int .i64 (-1))/\w=w':=fun w=>by
    have:=rDesc_any g w;rw[hd] at this;exact this
   clear hr h hd
   go_enter Tryz.func81,Tryz.ntmps81
   go_wp2_with (go_at_call 80;refine (HD _).mono ?_;rintro e w' ⟨rfl,rfl⟩)
   go_ret
   exact ⟨rfl,rfl⟩
theorem rFixed_any (n:Int) (hm:n<=9223372036854775807) (w:World):Calls Tryz.prog 51 #[.int .i64 n] w fun e w'=>e=.returned (.bool (fixB n))/\w=w':=by
 by_cases h1:n<0
 · have hr:fixB n=false:=decide_eq_false (by omega)
   rw[hr];clear hr
   go_enter Tryz.func51,Tryz.ntmps51
   go_wp2
   go_ret
   exact ⟨rfl,rfl⟩
 · by_cases h2:768<=n
   · have hr:fixB n=false:=decide_eq_false (by omega)
     rw[hr];clear hr
     go_enter Tryz.func51,Tryz.ntmps51
     go_wp2
     go_ret
     exact ⟨rfl,rfl⟩
   · by_cases h3:n<64
     · by_cases h4:n<43
       · have hr:fixB n=true:=decide_eq_true (by omega)
         rw[hr];clear hr
         go_enter Tryz.func51,Tryz.ntmps51
         go_wp2
         go_ret
         exact ⟨rfl,rfl⟩
       · have hr:fixB n=(n==63):=by rw[Bool.eq_iff_iff];unfold fixB;simp only[decide_eq_true_eq,beq_iff_eq];omega
         rw[hr];clear hr
         go_enter Tryz.func51,Tryz.ntmps51
         go_wp2
         go_ret
         exact ⟨by simp,rfl⟩
     · have h0:0<=n:=by omega
       have hr:fixB n=decide (n%64<2):=by rw[Bool.eq_iff_iff];unfold fixB;simp only[decide_eq_true_eq];omega
       rw[hr];clear hr
       go_enter Tryz.func51,Tryz.ntmps51
       go_wp2
       go_ret
       exact ⟨by simp,rfl⟩
theorem rFixed_is (n:Int) (hm:n<=9223372036854775807) (B:Bool) (h:fixB n=B) (w:World):Calls Tryz.prog 51 #[.int .i64 n] w fun e w'=>e=.returned (.bool B)/\w=w':=by
 rw[<- h];exact rFixed_any n hm w
def freeJ (O:List (Int × Int)) (j:Nat):Bool:=decide ((O.getD j (0,0)).1=0)
def cntU (O:List (Int × Int)):Nat->Nat
 |0=>0
 |k+1=>cntU O k+(if fixB (k:Int)=false/\freeJ O k=false then 1 else 0)
def findS (O:List (Int × Int)) (L g:Nat):Int:=
 match (List.range L).find? (fun k=>freeJ O ((g+k)%L)) with
 |some k=>(((g+k)%L:Nat):Int)
 |none=> -1
theorem findS_hit {O:List (Int × Int)}{L g k:Nat} (hk:k<L) (h:freeJ O ((g+k)%L)=true) (hn:∀ j,j<k->freeJ O ((g+j)%L)=false):findS O L g=(((g+k)%L:Nat):Int):=by
 have e:(List.range L).find? (fun k=>freeJ O ((g+k)%L))=some k:=by
  rw[List.find?_eq_some_iff_append]
  refine ⟨h,List.range k,(List.range (L-k-1)).map (k+1+·),?_,fun a ha=>by simp[hn a (List.mem_range.1 ha)]⟩
  have e1:L=k+(1+(L-k-1)):=by omega
  conv=>lhs;rw[e1,List.range_add,List.range_add]
  simp[Nat.add_assoc]
 unfold findS
 rw[e]
theorem findS_none {O:List (Int × Int)}{L g:Nat} (hn:∀ j,j<L->freeJ O ((g+j)%L)=false):findS O L g= -1:=by
 have e:(List.range L).find? (fun k=>freeJ O ((g+k)%L))=none:=by
  rw[List.find?_eq_none]
  intro x hx
  simp[hn x (List.mem_range.1 hx)]
 unfold findS
 rw[e]
def RSp (w:World) (M:Nat->Prop) (p:Value) (n:Int) (O:List (Int × Int)):Prop:=
 ∃ b v,p=.pointer (some ⟨b,0,none⟩)/\w.heap[b]? =some (.cells #[.int .i64 n,v] 135 (0,0))/\OwR w 0 v O/\(∀ k,M k ↔ k=b\/v.ownBlock=some k)
section
variable {w:World}{M:Nat->Prop}{p:Value}{n:Int}{O:List (Int × Int)}
theorem RSp.cells (h:RSp w M p n O) (h0:0<O.length):∃ b g off cap,p=.pointer (some ⟨b,0,none⟩)/\w.cell? ⟨b,0,none⟩=some (.int .i64 n)/\w.cell? ⟨b,1,none⟩=some (.slice (some ⟨g,off,none⟩) O.length cap)/\
 ∀ j,j<O.length->w.cell? ⟨g,off+j*2,none⟩=some (.int .u16 (O.getD j (0,0)).1)/\w.cell? ⟨g,off+j*2+1,none⟩=some (.int .u16 (O.getD j (0,0)).2):=by
 obtain ⟨b,v,rfl,hb,ho,_⟩:=h
 obtain ⟨g,off,cap,rfl,_,hc⟩:=ho.sl.at h0
 refine ⟨b,g,off,cap,rfl,?_,?_,fun j hj=>?_⟩
 · rw[cell_of_row _ _ _ _ _ _ hb];rfl
 · rw[cell_of_row _ _ _ _ _ _ hb];rfl
 · exact hc j hj
end
def goalS (L:Nat) (g:Int):Nat:=if g<0\/(L:Int)<=g then 0 else g.toNat
theorem pIsSize_yes (size:Int) (w:World) (h:1<=size/\size<=8):
 Calls Tryz.prog 178 #[.int .i64 size] w fun e w'=>e=.returned (.bool true)/\w=w':=by
 obtain ⟨h1,h2⟩:=h
 go_enter Tryz.func178,Tryz.ntmps178
 go_wp2
 go_ret
 exact ⟨rfl,rfl⟩
theorem pIsSize_no (size:Int) (w:World) (h:¬ (1<=size/\size<=8)):
 Calls Tryz.prog 178 #[.int .i64 size] w fun e w'=>e=.returned (.bool false)/\w=w':=by
 by_cases h1:1<=size
 · have h2:¬ size<=8:=fun h2=>h ⟨h1,h2⟩
   go_enter Tryz.func178,Tryz.ntmps178
   go_wp2
   go_ret
   exact ⟨rfl,rfl⟩
 · go_enter Tryz.func178,Tryz.ntmps178
   go_wp2
   go_ret
   exact ⟨rfl,rfl⟩
theorem pPut_at {w:World}{v:Value}{l:List Int} (hs:BSl w v l) (hl:l.length<=140737488355300) (n size:Int) (k:Nat) (hk:k<=8) (hk1:1<=k) (hsz:size=k) (h0:0<=n) (h1:n<18446744073709551616):
 Calls Tryz.prog 177 #[v,.int .u64 n,.int .i64 size] w (NewB w (l ++ lowB n k)):=by
 subst hsz
 obtain ⟨ao,cap,rfl,hcap⟩:=hs.shape
 have hby:=hs.1
 have hpos:=src_cells hs (w1:=w.alloc (.cells (Array.replicate (l.length+k) (.int .u8 0)) 5)) (fun p hp=>World.cell?_alloc_lt w _ p hp) l.length
 rw[List.take_length] at hpos
 obtain ⟨N,hN⟩:∃ N,N=l.length:=⟨_,rfl⟩
 rw[<- hN] at hl hcap hpos |-
 have hg2:(w.alloc (.cells (Array.replicate (N+k) (.int .u8 0)) 5)).heap[w.heap.size]? =some (.cells (List.replicate (N+k) (Value.int .u8 0)).toArray 5 (0,0)):=by
  rw[heap_alloc_new];simp
 have hcl:(l.map (Value.int .u8)).length=N:=by rw[List.length_map,<- hN]
 have hmm:N=Nat.min N N:=by simp
 have hfit:0+(l.map (Value.int .u8)).length<=(List.replicate (N+k) (Value.int .u8 0)).length:=by rw[List.length_map,<- hN];simp
 have HN:=Lib.hid hN
 have HG:=Lib.hid hg2
 have HC:=Lib.hid hcl
 have HM:=Lib.hid hmm
 have HF:=Lib.hid hfit
 have HP:=Lib.hid hpos
 have HBY:=Lib.hid hby
 have hbl:Below w.heap.size w (w.alloc (.cells (Array.replicate (N+k) (.int .u8 0)) 5)):=(Below.refl _ _).alloc (Nat.le_refl _) _
 have hkm:k<=9223372036854775807:=by omega
 have hnk:N+k<=200000000000000:=by omega
 clear hN hg2 hcl hmm hfit hpos hby hs
 go_enter Tryz.func177,Tryz.ntmps177
 go_wp2_with (first
  |(go_at_call 178;refine (pIsSize_yes _ _ ⟨by omega,by omega⟩).mono ?_;rintro e w' ⟨rfl,rfl⟩)
  |(at_make;refine wpList_make_u8c _ rfl _ _ rfl _ _ N (N+k) rfl rfl rfl (by push_cast;rfl) (by omega) (by omega) ?_)
  |(with_reducible refine wpList_copy_wrote rfl _ _ 30 30 rfl 5 Tryz.underlying30 (by kernel_rfl) _ _ _ _ _ _ rfl rfl w.heap.size 0 (List.replicate (N+k) (Value.int .u8 0)) 5 HG.out (l.map (Value.int .u8)) N HC.out HM.out (fun h=>⟨rfl,HP.out h⟩) HF.out (ints_oneCell _ _) ?_;intro w2 HG3 HW2))
 have hb2:Below w.heap.size w w2:=hbl.trans (HW2.below (Nat.le_refl _))
 have hob:OB w2 w.heap.size (.slice (some ⟨w.heap.size,0,none⟩) N (N+k)) l:=by
  have h3:=HG3.out
  rw[HN.out]
  refine OB.of_heap (rest:=List.replicate k (Value.int .u8 0)) HBY.out (Nat.le_refl _) ?_ (by simp) (by simp only[maxLen];have:=HN.out;omega)
  rw[h3]
  simp[splice,HN.out]
 clear HG3 HW2
 go_loopw [1,7,22] (fun c u i wr=>∃ (j:Nat) (m:Int),j<=k/\i=.int .i64 j/\c=.int .u64 m/\0<=m/\m<18446744073709551616/\Hid (m=n / 2 ^ (8*j))/\Hid (OB wr w.heap.size u (l ++ lowB n j))/\Below w.heap.size w wr)
  (fun _ _ i _=>k-(intOf i).toNat)
 case atStart=>exact ⟨0,n,by omega,rfl,rfl,h0,h1,by simp[Hid],by simp[Hid,lowB_zero];exact hob,hb2⟩
 case round=>
  obtain ⟨j,m,hj,rfl,rfl,hm0,hm1,HM2,HO,hbr⟩:=hrel
  by_cases hlt:j<k
  · have hlen:(l ++ lowB n j).length+1<=140737488355328:=by rw[List.length_append,lowB_length,<- HN.out];omega
    have HLE:=Lib.hid hlen
    clear hlen
    go_wp2_with (at_builtin;refine wpList_append_byte wr _ rfl _ _ rfl w.heap.size _ _ rfl HO.out ⟨by omega,by omega⟩ rfl HLE.out hbr.size ?_;intro v' w3 hob3 hb3)
    go_roundw
    case rel=>
     refine ⟨j+1,m / 256,by omega,by go_num,rfl,by omega,by omega,?_,?_,hbr.trans (hb3)⟩
     · show _=_
       rw[HM2.out,<- shr_step];rfl
     · show OB _ _ _ _
       rw[lowB_succ,<- List.append_assoc,<- HM2.out];exact hob3
    case measure=>simp[intOf];omega
  · go_wp2_with fail
    go_ret
    obtain rfl:j=k:=by omega
    exact ⟨_,rfl,HO.out,hbr⟩
end Go.Proofs.YtedabomlfcghoaaGreat
