/- What the law rests on: part 2. -/
import Derived.Deep.MidRow
import Derived.Deep.WholeRow
import Derived.Deep.CutRange
import Derived.IntWalk
import Derived.Test.YtedabomlfcghoaaGreatKG1
set_option linter.unusedVariables false
namespace Go.Proofs.YtedabomlfcghoaaGreat
set_option maxRecDepth 100000
open Go.RowKit
theorem Zex(b:Int)(hm:b<=9223372036854775807)(w:World):Calls Tryz.prog 52 #[.int .i64 b] w fun e w'=>e=.returned (.bool (frmB b))/\w=w':=by
 by_cases h1:0<b
 . by_cases h2:b%64=0
   . by_cases h3:b / 64<=12
     . have hr:frmB b=true:=decide_eq_true (by omega)
       rw[hr];have h0:0<=b:=by omega
       have h2':(b%64==0)=true:=by simp[h2]
       clear hr h2;go_enter Tryz.func52,Tryz.ntmps52;go_wp2;go_ret;exact⟨rfl,rfl⟩
     . have hr:frmB b=false:=decide_eq_false (by omega)
       rw[hr];have h0:0<=b:=by omega
       have h2':(b%64==0)=true:=by simp[h2]
       clear hr h2;go_enter Tryz.func52,Tryz.ntmps52;go_wp2;go_ret;exact⟨rfl,rfl⟩
   . have hr:frmB b=false:=decide_eq_false (by omega)
     rw[hr];have h0:0<=b:=by omega
     have h2':(b%64==0)=false:=by simp[h2]
     clear hr;go_enter Tryz.func52,Tryz.ntmps52;go_wp2;go_ret;exact⟨rfl,rfl⟩
 . have hr:frmB b=false:=decide_eq_false (by omega)
   rw[hr];clear hr;go_enter Tryz.func52,Tryz.ntmps52;go_wp2;go_ret;exact⟨rfl,rfl⟩
theorem Zew(k:Nat)(h1:1<=k)(h2:k<=12)(w:World):Calls Tryz.prog 52 #[.int .i64 (64*(k:Int))] w fun e w'=>e=.returned (.bool true)/\w=w':=by
 have:=Zex (64*(k:Int)) (by omega) w;rw[frm_mk k h1 h2] at this;exact this
theorem gFormed_no(b:Int)(hm:b<=9223372036854775807)(h:frmB b=false)(w:World):Calls Tryz.prog 52 #[.int .i64 b] w fun e w'=>e=.returned (.bool false)/\w=w':=by
 have:=Zex b hm w;rw[h] at this;exact this
theorem Zji(k:Nat)(h1:1<=k)(h2:k<=12)(w:World):Calls Tryz.prog 54 #[.int .i64 (64*(k:Int))] w fun e w'=>e=.returned (.int .i64 k)/\w=w':=by
 go_enter Tryz.func54,Tryz.ntmps54;go_wp2_with (go_at_call 52;refine(Zew k h1 h2 _).mono ?_;rintro e w' ⟨rfl,rfl⟩)
 go_ret;exact⟨ret_i (by omega),rfl⟩
theorem gGroups_any(b:Int)(hm:b<=9223372036854775807)(w:World):Calls Tryz.prog 54 #[.int .i64 b] w fun e w'=>e=.returned (.int .i64 (grsI b))/\w=w':=by
 cases hb:frmB b
 . have hr:grsI b=0:=by unfold grsI;rw[if_neg (by simp[hb])]
   rw[hr];have HB:=hid hb;clear hb hr;go_enter Tryz.func54,Tryz.ntmps54;go_wp2_with (go_at_call 52;refine(gFormed_no b hm HB.out _).mono ?_;rintro e w' ⟨rfl,rfl⟩)
   go_ret;exact⟨rfl,rfl⟩
 . obtain⟨k,h1,h2,rfl⟩:=frm_yes hb
   have hr:grsI (64*(k:Int))=k:=by unfold grsI;rw[if_pos hb];omega
   rw[hr];exact Zji k h1 h2 w
theorem Zil(n:Int)(hm:n<=9223372036854775807)(w:World):Calls Tryz.prog 180 #[.int .i64 n] w fun e w'=>e=.returned (.int .i64 (grpI n))/\w=w':=by
 by_cases h:n<0
 . have hr:grpI n= -1:=if_pos h
   rw[hr];clear hr;go_enter Tryz.func180,Tryz.ntmps180;go_wp2;go_ret;exact⟨rfl,rfl⟩
 . have hr:grpI n=n / 64:=if_neg h
   rw[hr];clear hr;have h0:0<=n:=by omega
   go_enter Tryz.func180,Tryz.ntmps180;go_wp2;go_ret;exact⟨rfl,rfl⟩
theorem Zbg(g:Int)(h1:0<=g)(h2:g<12)(w:World):Calls Tryz.prog 143 #[.int .i64 g] w fun e w'=>e=.returned (.bool true)/\w=w':=by
 go_enter Tryz.func143,Tryz.ntmps143;go_wp2;go_ret;exact⟨rfl,rfl⟩
theorem Zib(g:Int)(h:¬ (0<=g/\g<12))(w:World):Calls Tryz.prog 143 #[.int .i64 g] w fun e w'=>e=.returned (.bool false)/\w=w':=by
 by_cases h0:0<=g
 . have h1:¬ g<12:=fun h2=>h ⟨h0,h2⟩
   go_enter Tryz.func143,Tryz.ntmps143;go_wp2;go_ret;exact⟨rfl,rfl⟩
 . go_enter Tryz.func143,Tryz.ntmps143
   go_wp2;go_ret;exact⟨rfl,rfl⟩
theorem Zkh(g:Int)(w:World):Calls Tryz.prog 94 #[.int .i64 g] w fun e w'=>e=.returned (.int .i64 (dscI g))/\w=w':=by
 by_cases h:0<=g/\g<12
 . obtain⟨h1,h2⟩:=h
   by_cases h3:g=0
   . subst h3
     rw[show dscI 0=1 from rfl];go_enter Tryz.func94,Tryz.ntmps94;go_wp2_with (go_at_call 143;refine(Zbg 0 (by decide) (by decide) _).mono ?_;rintro e w' ⟨rfl,rfl⟩)
     go_ret;exact⟨rfl,rfl⟩
   . have hr:dscI g=g*64:=by unfold dscI;rw[if_pos ⟨h1,h2⟩,if_neg h3]
     rw[hr];have h3':(g==0)=false:=by simp[h3]
     clear hr h3;go_enter Tryz.func94,Tryz.ntmps94;go_wp2_with (go_at_call 143;refine(Zbg g h1 h2 _).mono ?_;rintro e w' ⟨rfl,rfl⟩)
     go_ret;exact⟨rfl,rfl⟩
 . have hr:dscI g= -1:=if_neg h
   rw[hr];have H:=hid h;clear hr h;go_enter Tryz.func94,Tryz.ntmps94;go_wp2_with (go_at_call 143;refine(Zib g H.out _).mono ?_;rintro e w' ⟨rfl,rfl⟩)
   go_ret;exact⟨rfl,rfl⟩
theorem dsc_bd(g:Int)(h1:0<=g)(h2:g<12):0<=dscI g/\dscI g<=704:=by
 unfold dscI;rw[if_pos ⟨h1,h2⟩];split <;> omega
theorem Zjh(g:Int)(w:World):Calls Tryz.prog 95 #[.int .i64 g] w fun e w'=>e=.returned (.int .i64 (ownI g))/\w=w':=by
 by_cases h:0<=g/\g<12
 . have hr:ownI g=dscI g+1:=if_pos h
   rw[hr];obtain⟨h1,h2⟩:=h;obtain⟨d1,d2⟩:=dsc_bd g h1 h2;clear hr;go_enter Tryz.func95,Tryz.ntmps95
   go_wp2_with (first
    |(go_at_call 143;refine(Zbg g h1 h2 _).mono ?_;rintro e w' ⟨rfl,rfl⟩)
    |(go_at_call 94;refine(Zkh g _).mono ?_;rintro e w' ⟨rfl,rfl⟩))
   go_ret;exact⟨rfl,rfl⟩
 . have hr:ownI g= -1:=if_neg h
   rw[hr];have H:=hid h;clear hr h;go_enter Tryz.func95,Tryz.ntmps95;go_wp2_with (go_at_call 143;refine(Zib g H.out _).mono ?_;rintro e w' ⟨rfl,rfl⟩)
   go_ret;exact⟨rfl,rfl⟩
theorem gCopy_any(w:World):Calls Tryz.prog 182 #[] w fun e w'=>e=.returned (.int .i64 63)/\w=w':=by
 go_enter Tryz.func182,Tryz.ntmps182;go_wp2;go_ret;exact⟨rfl,rfl⟩
def jrnB(n:Int):Bool:=decide (3<=n/\n<43)
theorem gJournal_any(n:Int)(w:World):Calls Tryz.prog 181 #[.int .i64 n] w fun e w'=>e=.returned (.bool (jrnB n))/\w=w':=by
 by_cases h0:3<=n
 . by_cases h1:n<43
   . rw[show jrnB n=true from decide_eq_true ⟨h0,h1⟩]
     go_enter Tryz.func181,Tryz.ntmps181;go_wp2;go_ret;exact⟨rfl,rfl⟩
   . rw[show jrnB n=false from decide_eq_false (by omega)]
     go_enter Tryz.func181,Tryz.ntmps181;go_wp2;go_ret;exact⟨rfl,rfl⟩
 . rw[show jrnB n=false from decide_eq_false (by omega)]
   go_enter Tryz.func181,Tryz.ntmps181;go_wp2;go_ret;exact⟨rfl,rfl⟩
theorem gOpen_yes(k:Nat)(h1:1<=k)(h2:k<=12)(w:World):Calls Tryz.prog 30 #[.int .i64 (64*(k:Int))] w fun e w'=>e=.returned (.int .i64 (62*(k:Int)-42))/\w=w':=by
 go_enter Tryz.func30,Tryz.ntmps30
 go_wp2_with (first
  |(go_at_call 52;refine(Zew k h1 h2 _).mono ?_;rintro e w' ⟨rfl,rfl⟩)
  |(go_at_call 54;refine(Zji k h1 h2 _).mono ?_;rintro e w' ⟨rfl,rfl⟩))
 go_ret;exact⟨ret_i (by omega),rfl⟩
theorem rom_mk(k:Nat)(h1:1<=k)(h2:k<=12):romI (64*(k:Int))=62*(k:Int)-48:=by
 unfold romI;rw[if_pos (frm_mk k h1 h2)];omega
theorem gFixed_no(n:Int)(hm:n<=9223372036854775807)(h:¬ (0<=grpI n/\grpI n<12))(w:World):Calls Tryz.prog 146 #[.int .i64 n] w fun e w'=>e=.returned (.bool (fixB n))/\w=w':=by
 have hr:fixB n=false:=by
  unfold fixB;refine decide_eq_false ?_;unfold grpI at h;split at h <;> omega
 rw[hr];have H:=hid h;clear hr h;go_enter Tryz.func146,Tryz.ntmps146
 go_wp2_with (first
  |(go_at_call 180;refine(Zil n hm _).mono ?_;rintro e w' ⟨rfl,rfl⟩)
  |(go_at_call 143;refine(Zib _ H.out _).mono ?_;rintro e w' ⟨rfl,rfl⟩))
 go_ret;exact⟨rfl,rfl⟩
theorem fix_is(n:Int)(h1:0<=grpI n)(h2:grpI n<12):fixB n=(((((n==0) || (n==dscI (grpI n))) || (n==ownI (grpI n))) || jrnB n) || (n==63)):=by
 have hn:0<=n:=by unfold grpI at h1;split at h1 <;> omega
 have hg:grpI n=n / 64:=by unfold grpI;rw[if_neg (by omega)]
 rw[hg] at h1 h2 |-
 rw[Bool.eq_iff_iff];unfold fixB jrnB ownI dscI;have hc:0<=n / 64/\n / 64<12:=⟨h1,h2⟩;simp only[if_pos hc,decide_eq_true_eq,Bool.or_eq_true,beq_iff_eq];by_cases h0:n / 64=0
 . simp only[if_pos h0];omega
 . simp only[if_neg h0];omega
theorem gFixed_yes(n:Int)(hm:n<=9223372036854775807)(h1:0<=grpI n)(h2:grpI n<12)(w:World):Calls Tryz.prog 146 #[.int .i64 n] w fun e w'=>e=.returned (.bool (fixB n))/\w=w':=by
 rw[fix_is n h1 h2];obtain⟨G,hG⟩:∃ G,G=grpI n:=⟨_,rfl⟩;have HGG:Calls Tryz.prog 180 #[.int .i64 n] w fun e w'=>e=.returned (.int .i64 G)/\w=w':=by rw[hG];exact Zil n hm w
 rw[<- hG] at h1 h2 |-
 clear hG;obtain⟨D,hD⟩:∃ D,D=dscI G:=⟨_,rfl⟩;have HDD:Calls Tryz.prog 94 #[.int .i64 G] w fun e w'=>e=.returned (.int .i64 D)/\w=w':=by rw[hD];exact Zkh G w
 rw[<- hD];clear hD;obtain⟨O,hO⟩:∃ O,O=ownI G:=⟨_,rfl⟩;have HOO:Calls Tryz.prog 95 #[.int .i64 G] w fun e w'=>e=.returned (.int .i64 O)/\w=w':=by rw[hO];exact Zjh G w
 rw[<- hO];clear hO;obtain⟨J,hJ⟩:∃ J,J=jrnB n:=⟨_,rfl⟩;have HJJ:Calls Tryz.prog 181 #[.int .i64 n] w fun e w'=>e=.returned (.bool J)/\w=w':=by rw[hJ];exact gJournal_any n w
 rw[<- hJ];clear hJ;rcases hb0:(n==0) with _|_
 . rcases hb1:(n==D) with _|_
   . rcases hb2:(n==O) with _|_
     . cases J
       . go_enter Tryz.func146,Tryz.ntmps146
         go_wp2_with (first
          |(go_at_call 180;refine HGG.mono ?_;rintro e w' ⟨rfl,rfl⟩)
          |(go_at_call 143;refine(Zbg G h1 h2 _).mono ?_;rintro e w' ⟨rfl,rfl⟩)
          |(go_at_call 94;refine HDD.mono ?_;rintro e w' ⟨rfl,rfl⟩)
          |(go_at_call 95;refine HOO.mono ?_;rintro e w' ⟨rfl,rfl⟩)
          |(go_at_call 181;refine HJJ.mono ?_;rintro e w' ⟨rfl,rfl⟩)
          |(go_at_call 182;refine(gCopy_any _).mono ?_;rintro e w' ⟨rfl,rfl⟩))
         go_ret;exact⟨by simp,rfl⟩
       . go_enter Tryz.func146,Tryz.ntmps146
         go_wp2_with (first
          |(go_at_call 180;refine HGG.mono ?_;rintro e w' ⟨rfl,rfl⟩)
          |(go_at_call 143;refine(Zbg G h1 h2 _).mono ?_;rintro e w' ⟨rfl,rfl⟩)
          |(go_at_call 94;refine HDD.mono ?_;rintro e w' ⟨rfl,rfl⟩)
          |(go_at_call 95;refine HOO.mono ?_;rintro e w' ⟨rfl,rfl⟩)
          |(go_at_call 181;refine HJJ.mono ?_;rintro e w' ⟨rfl,rfl⟩))
         go_ret;exact⟨rfl,rfl⟩
     . go_enter Tryz.func146,Tryz.ntmps146
       go_wp2_with (first
        |(go_at_call 180;refine HGG.mono ?_;rintro e w' ⟨rfl,rfl⟩)
        |(go_at_call 143;refine(Zbg G h1 h2 _).mono ?_;rintro e w' ⟨rfl,rfl⟩)
        |(go_at_call 94;refine HDD.mono ?_;rintro e w' ⟨rfl,rfl⟩)
        |(go_at_call 95;refine HOO.mono ?_;rintro e w' ⟨rfl,rfl⟩))
       go_ret;exact⟨rfl,rfl⟩
   . go_enter Tryz.func146,Tryz.ntmps146
     go_wp2_with (first
      |(go_at_call 180;refine HGG.mono ?_;rintro e w' ⟨rfl,rfl⟩)
      |(go_at_call 143;refine(Zbg G h1 h2 _).mono ?_;rintro e w' ⟨rfl,rfl⟩)
      |(go_at_call 94;refine HDD.mono ?_;rintro e w' ⟨rfl,rfl⟩))
     go_ret;exact⟨rfl,rfl⟩
 . go_enter Tryz.func146,Tryz.ntmps146
   go_wp2_with (first
    |(go_at_call 180;refine HGG.mono ?_;rintro e w' ⟨rfl,rfl⟩)
    |(go_at_call 143;refine(Zbg G h1 h2 _).mono ?_;rintro e w' ⟨rfl,rfl⟩))
   go_ret;exact⟨rfl,rfl⟩
theorem gFixed_any(n:Int)(hm:n<=9223372036854775807)(w:World):Calls Tryz.prog 146 #[.int .i64 n] w fun e w'=>e=.returned (.bool (fixB n))/\w=w':=by
 by_cases h:0<=grpI n/\grpI n<12
 . exact gFixed_yes n hm h.1 h.2 w
 . exact gFixed_no n hm h w
theorem Zkg(n:Int)(hm:n<=9223372036854775807)(B:Bool)(h:fixB n=B)(w:World):Calls Tryz.prog 146 #[.int .i64 n] w fun e w'=>e=.returned (.bool B)/\w=w':=by
 rw[<- h];exact gFixed_any n hm w
section
variable {α:Type}{f:α->List Value}{s:Nat}
theorem Zaw:∀ {L:List α},(∀ x∈L,(f x).length=s)->(L.flatMap f).length=L.length*s
 |[],_=>by simp
 |x :: L,h=>by
  rw[List.flatMap_cons,List.length_append,Zaw (fun z hz=>h z (List.mem_cons_of_mem _ hz)),h x (by simp),List.length_cons,Nat.succ_mul];omega
theorem Zfj:∀ {L:List α},(∀ x∈L,(f x).length=s)->∀ (i:Nat) (hi:i<L.length),((L.flatMap f).drop (i*s)).take s=f L[i]
 |[],_,i,hi=>by simp at hi
 |x :: L,h,0,_=>by
  rw[List.flatMap_cons,Nat.zero_mul,List.drop_zero,List.take_append_of_le_length (by rw[h x (by simp)];exact Nat.le_refl _),<- h x (by simp),List.take_length];rfl
 |x :: L,h,i+1,hi=>by
  have hx:=h x (by simp);rw[List.flatMap_cons,show(i+1)*s=(f x).length+i*s by rw[hx,Nat.succ_mul];omega,List.drop_length_add_append];exact Zfj (fun z hz=>h z (List.mem_cons_of_mem _ hz)) i (by simpa using hi)
theorem Zio:∀ {L:List α},(∀ x∈L,(f x).length=s)->∀ (i:Nat) (hi:i<L.length) (y:α),(f y).length=s->splice (L.flatMap f) (i*s) (f y)=(L.set i y).flatMap f
 |[],_,i,hi,_,_=>by simp at hi
 |x :: L,h,0,_,y,hy=>by
  have hx:=h x (by simp);simp only[splice,Nat.zero_mul,List.take_zero,List.nil_append,Nat.zero_add,List.set_cons_zero,List.flatMap_cons];rw[hy,<- hx,List.drop_left]
 |x :: L,h,i+1,hi,y,hy=>by
  have hx:=h x (by simp);have ih:=Zio (fun z hz=>h z (List.mem_cons_of_mem _ hz)) i (by simpa using hi) y hy;rw[List.set_cons_succ,List.flatMap_cons,List.flatMap_cons,<- ih];simp only[splice];rw[show(i+1)*s=(f x).length+i*s by rw[hx,Nat.succ_mul];omega,List.take_length_add_append,Nat.add_assoc,List.drop_length_add_append,List.append_assoc]
end
theorem Zbx{w:World}{g o:Nat}{t:TypeId}{vs cur:List Value}(hg:w.heap[g]? =some (.cells cur.toArray t (0,0)))(hl:o+vs.length<=cur.length)(h1:∀ v∈vs,v.oneCell'=true):
 w.setCells g o vs=w.setRow g (splice cur o vs).toArray:=by
 have a:=run_storeCells_cells (P:=Tryz.prog) g o vs 0 w
  (fun j hj=>by rw[cell_of_row _ _ _ _ _ _ hg];simp;omega)
  (fun j hj=>by simp[World.frozen?,hg]) h1
 have b:=run_storeCells_at Tryz.prog g o t vs 0 cur.toArray w hg (by simpa using hl) h1;rw[a] at b
 injection b with _ b
 simpa [splice] using b
theorem Zcp{w:World}{g o n:Nat}{t:TypeId}{cur:List Value}(hg:w.heap[g]? =some (.cells cur.toArray t (0,0)))(hl:o+n<=cur.length):w.there g o n:=fun j hj=>by
 refine⟨by rw[cell_of_row _ _ _ _ _ _ hg];simp;omega,by simp[World.frozen?,hg]⟩
theorem Zca{w:World}{g o:Nat}{t:TypeId}{vs cur:List Value}(hg:w.heap[g]? =some (.cells cur.toArray t (0,0)))(h:(cur.drop o).take vs.length=vs):w.rangeAt g o vs:=fun j v hv=>by
 rw[cell_of_row _ _ _ _ _ _ hg];have hj:=(List.getElem?_eq_some_iff.1 hv).1;rw[<- h,List.getElem?_take,if_pos hj,List.getElem?_drop] at hv
 simpa using hv
end Go.Proofs.YtedabomlfcghoaaGreat
namespace Go.Proofs.YtedabomlfcghoaaGreat
set_option maxRecDepth 100000
open Go.RowKit BM
def OwSl(w:World)(v:Value)(O:List (Int × Int)):Prop:=
 OwB O/\((v=.slice none 0 0/\O=[])\/∃ a cap,v=.slice (some a) O.length cap/\∀ j,j<O.length->a.block<w.heap.size/\a.spot=none/\
  w.cell? ⟨a.block,a.off+j*2,none⟩=some (.int .u16 (O.getD j (0,0)).1)/\w.cell? ⟨a.block,a.off+j*2+1,none⟩=some (.int .u16 (O.getD j (0,0)).2))
theorem OwSl.below{w w':World}{v:Value}{O:List (Int × Int)}(h:OwSl w v O)(hb:Below w.heap.size w w'):OwSl w' v O:=by
 refine⟨h.1,?_⟩;rcases h.2 with h| ⟨a,cap,hv,hc⟩
 . exact .inl h
 . refine .inr ⟨a,cap,hv,fun j hj=>?_⟩
   obtain⟨h1,h2,h3,h4⟩:=hc j hj;exact⟨Nat.lt_of_lt_of_le h1 hb.size,h2,by rw[hb.cell (p:=⟨a.block,a.off+j*2,none⟩) h1,h3],by rw[hb.cell (p:=⟨a.block,a.off+j*2+1,none⟩) h1,h4]⟩
theorem OwSl.shape{w:World}{v:Value}{O:List (Int × Int)}(h:OwSl w v O):∃ ao cap,v=.slice ao O.length cap:=by
 rcases h.2 with⟨hv,hk⟩| ⟨a,cap,hv,_⟩
 . exact⟨none,0,by rw[hv,hk];rfl⟩
 . exact⟨some a,cap,hv⟩
theorem OwSl.at{w:World}{v:Value}{O:List (Int × Int)}(h:OwSl w v O)(hO:0<O.length):∃ b off cap,v=.slice (some ⟨b,off,none⟩) O.length cap/\b<w.heap.size/\
 ∀ j,j<O.length->w.cell? ⟨b,off+j*2,none⟩=some (.int .u16 (O.getD j (0,0)).1)/\w.cell? ⟨b,off+j*2+1,none⟩=some (.int .u16 (O.getD j (0,0)).2):=by
 rcases h.2 with⟨_,hk⟩| ⟨⟨b,off,spot⟩,cap,hv,hc⟩
 . rw[hk] at hO;simp at hO
 . obtain⟨h1,h2,_⟩:=hc 0 hO
   obtain rfl:spot=none:=h2;exact⟨b,off,cap,hv,h1,fun j hj=>(hc j hj).2.2⟩
def cO(x:Int × Int):List Value:=[.int .u16 x.1,.int .u16 x.2]
def ownC(O:List (Int × Int)):List Value:=O.flatMap cO
theorem cO_len:∀ x:Int × Int,(cO x).length=2:=fun _=>rfl
theorem Zbk(O:List (Int × Int)):(ownC O).length=O.length*2:=Zaw fun x _=>cO_len x
theorem ownC_append(O P:List (Int × Int)):ownC (O ++ P)=ownC O ++ ownC P:=List.flatMap_append
theorem ownC_get(O:List (Int × Int))(j:Nat)(h:j<O.length):(ownC O)[j*2]? =some (.int .u16 (O.getD j (0,0)).1)/\(ownC O)[j*2+1]? =some (.int .u16 (O.getD j (0,0)).2):=by
 have hg:=Zfj (f:=cO) (s:=2) (L:=O) (fun x _=>cO_len x) j h;have e:O.getD j (0,0)=O[j]:=by simp[List.getD_eq_getElem?_getD,h]
 rw[e];have h0:=congrArg (fun z=>z[0]?) hg;have h1:=congrArg (fun z=>z[1]?) hg;simp only[List.getElem?_take,List.getElem?_drop,Nat.add_zero] at h0 h1;rw[if_pos (by omega)] at h0 h1;exact⟨h0,h1⟩
def OwR(w:World)(B:Nat)(v:Value)(O:List (Int × Int)):Prop:=OwB O/\w.ownsRow B 109 2 v O.length (ownC O)
theorem OwR.sl{w:World}{B:Nat}{v:Value}{O:List (Int × Int)}(h:OwR w B v O):OwSl w v O:=by
 refine⟨h.1,?_⟩;rcases h.2.2 with⟨hv,hl⟩| ⟨g,cap,cur,hv,hg,hh,hnc,hcm,hcs,ht⟩
 . exact .inl ⟨hv,List.eq_nil_of_length_eq_zero hl⟩
 . refine .inr ⟨_,cap,hv,fun j hj=>⟨(Array.getElem?_eq_some_iff.1 hh).1,rfl,?_⟩⟩
   obtain⟨h1,h2⟩:=ownC_get O j hj;rw[<- ht,List.getElem?_take] at h1 h2;rw[if_pos (by omega)] at h1 h2;rw[Nat.zero_add,cell_of_row _ _ _ _ _ _ hh,cell_of_row _ _ _ _ _ _ hh];exact⟨by simpa using h1,by simpa using h2⟩
theorem OwR.more{w:World}{B B':Nat}{v:Value}{O:List (Int × Int)}(h:OwR w B v O)(hB:B'<=B):OwR w B' v O:=by
 refine⟨h.1,h.2.1,?_⟩;rcases h.2.2 with h| ⟨g,cap,cur,hv,hg,r⟩
 . exact .inl h
 . exact .inr ⟨g,cap,cur,hv,Nat.le_trans hB hg,r⟩
theorem OwR.below{w w':World}{B:Nat}{v:Value}{O:List (Int × Int)}(h:OwR w B v O)(hb:Below w.heap.size w w'):OwR w' B v O:=by
 refine⟨h.1,h.2.1,?_⟩;rcases h.2.2 with h| ⟨g,cap,cur,hv,hg,hh,r⟩
 . exact .inl h
 . exact .inr ⟨g,cap,cur,hv,hg,by rw[hb.block g (Array.getElem?_eq_some_iff.1 hh).1];exact hh,r⟩
theorem OwR.of_row{w:World}{B g:Nat}{O:List (Int × Int)}(hb:OwB O)(hB:B<=g)(hg:w.heap[g]? =some (.cells (ownC O).toArray 109 (0,0)))(hm:O.length<=maxLen):
 OwR w B (.slice (some ⟨g,0,none⟩) O.length O.length) O:=by
 refine⟨hb,Zbk O,.inr ⟨g,O.length,_,rfl,hB,hg,Nat.le_refl _,hm,by simp[Zbk],?_⟩⟩;rw[List.take_of_length_le (by simp[Zbk])]
theorem infoOw:(Tryz.prog.info? 109).map (fun i=>(i.zero,i.size,i.bytes))=some (some (.agg #[.int .u16 0,.int .u16 0]),2,4):=by kernel_rfl
theorem made_ow(n:Nat):madeCells (Value.agg #[.int .u16 0,.int .u16 0]).cells (n*2)=(ownC (List.replicate n (0,0))).toArray:=by
 have e:ownC (List.replicate n (0,0))=List.replicate (n*2) (.int .u16 0):=by
  apply List.ext_getElem?;intro i;by_cases h:i<n*2
  . have h2:i / 2<(List.replicate n ((0:Int),(0:Int))).length:=by simp;omega
    have hz:(List.replicate n ((0:Int),(0:Int))).getD (i / 2) (0,0)=(0,0):=by
     rw[List.getD_eq_getElem?_getD,List.getElem?_replicate];split <;> rfl
    obtain⟨h3,h4⟩:=ownC_get _ _ h2;rw[hz] at h3 h4;rw[List.getElem?_replicate,if_pos h];rcases Nat.mod_two_eq_zero_or_one i with e|e
    . rw[show i=i / 2*2 by omega];exact h3
    . rw[show i=i / 2*2+1 by omega];exact h4
  . rw[List.getElem?_eq_none (by rw[Zbk];simp;omega),List.getElem?_eq_none (by simp;omega)]
 rw[e];apply Array.ext
 . simp[size_madeCells]
 . intro i h1 h2
   simp only[madeCells,Value.cells,Array.getElem_map,Array.getElem_range];simp;have:i%2=0\/i%2=1:=by omega
   rcases this with e|e <;> rw[e] <;> rfl
theorem wpList_make_ow(w:World){ops:Array Oper}{rest:List Oper}{o:Oper}{a:Act}{Q:Exit->Act->World->Prop}
 (hg:o.guard=none) (l c:Operand) (hop:o.op=Op.makeSlice 105 l c) (C:Int) (n:Nat) (hl:a.eval l=.int .i64 C) (hc:a.eval c=.int .i64 C) (hC:C=n) (hn:n<=1000000)
 (hK:wpList Tryz.prog ops Q rest (a.put o.dst (.slice (some ⟨w.heap.size,0,none⟩) n n)) (w.alloc (.cells (ownC (List.replicate n (0,0))).toArray 109))):
 wpList Tryz.prog ops Q (o :: rest) a w:=by
 refine wpList_plain hg fun K hK'=>?_
 obtain⟨i,h2,h3,h4,h5⟩:=info_parts infoOw;subst hC;have hrun:=run_make (P:=Tryz.prog) w 105 109 i (.agg #[.int .u16 0,.int .u16 0]) Tryz.underlying105 h2 h3 .i64 .i64 n n (by omega) (by omega) (by rw[h5];omega) (by omega);unfold Oper.wp;simp only[Int.toNat_natCast,h4,made_ow] at hrun;simp[execOp,hop,hl,hc,hrun,Result.andThen];exact hK' _ _ hK
theorem wpList_store_ow{ops:Array Oper}{rest:List Oper}{op:Oper}{a:Act}{w:World}{Q:Exit->Act->World->Prop}(hgd:op.guard=none)(x y:Operand)(ho:op.op=.store 109 x y)
 (g k:Nat) (O:List (Int × Int)) (i j:Int) (hx:a.eval x=.pointer (some ⟨g,k*2,none⟩)) (hy:a.eval y=.agg #[.int .u16 i,.int .u16 j])
 (hg:w.heap[g]? =some (.cells (ownC O).toArray 109 (0,0))) (hk:k<O.length)
 (h:∀ w',Wrote w w' g->w'.heap[g]? =some (.cells (ownC (O.set k (i,j))).toArray 109 (0,0))->wpList Tryz.prog ops Q rest (a.put op.dst undef) w'):wpList Tryz.prog ops Q (op :: rest) a w:=by
 have hs:(Tryz.prog.info? 109).map (·.size)=some 2:=by kernel_rfl
 have hl:k*2+(cO (i,j)).length<=(ownC O).length:=by rw[Zbk,cO_len];omega
 have h1:∀ v∈cO (i,j),v.oneCell'=true:=fun v hv=>by simp[cO] at hv;rcases hv with rfl|rfl <;> rfl
 refine wpList_store_mid hgd 109 x y ho g (k*2) #[.int .u16 i,.int .u16 j] hx hy (Zcp hg hl) (by rw[hs];rfl) (all_oneCell_toArray (cs:=cO (i,j)) h1) ?_;have e:=Zbx hg hl h1;rw[show(#[Value.int .u16 i,Value.int .u16 j]:Array Value).toList=cO (i,j) from rfl,e];refine h _ (Wrote.setRow _ _ _) ?_;rw[setRow_heap _ _ _ _ _ _ hg,ownC,Zio (f:=cO) (s:=2) (fun x _=>cO_len x) k hk (i,j) (cO_len _)];rfl
theorem Zhh(w1:World)(i j:Int)(hi:0<=i/\i<=65535)(hj:0<=j/\j<=65535){ops:Array Oper}{rest:List Oper}{o:Oper}{a:Act}{Q:Exit->Act->World->Prop}(hgd:o.guard=none)(s y:Operand)
 (ho:o.op=.call { callee:=.builtin .append,args:=#[s,y],argTypes:=#[105,105] })
 (B:Nat) (v:Value) (O:List (Int × Int)) (hs:a.eval s=v) (hown:OwR w1 B v O) (hO:O.length<=1000000) (hy:a.eval y=.slice (some ⟨w1.heap.size,0,none⟩) 1 1) (hB:B<=w1.heap.size)
 (h:∀ v' w',OwR w' B v' (O ++ [(i,j)])->Below B w1 w'->wpList Tryz.prog ops Q rest (a.put o.dst v') w'):wpList Tryz.prog ops Q (o :: rest) a (w1.alloc (.cells #[.int .u16 i,.int .u16 j] 109)):=by
 obtain⟨t,h2,h3,h4,h5⟩:=info_parts infoOw;have hbel:Below w1.heap.size w1 (w1.alloc (.cells #[.int .u16 i,.int .u16 j] 109)):=Zaa _ _;have hnew:(w1.alloc (.cells #[.int .u16 i,.int .u16 j] 109)).heap[w1.heap.size]? =some (.cells #[.int .u16 i,.int .u16 j] 109 (0,0)):=heap_alloc_new w1 _;have hf:=hown.below hbel;refine wpList_append_own _ hgd s y 105 ho B 109 t _ 2 4 Tryz.underlying105 h2 h3 h4 h5 rfl (by decide) v O.length _ hs hf.2 ⟨w1.heap.size,0,none⟩ 1 1 [.int .u16 i,.int .u16 j] hy rfl ?_ ?_ (by simp only[maxLen];omega) (by omega) (by simp;omega) fun v' w' h6 h7 _=>?_
 . intro m u hm
   have hm2:m<2:=by simpa using (List.getElem?_eq_some_iff.1 hm).1
   rw[Addr.add_lit,Nat.zero_add,cell_of_row _ _ _ _ _ _ hnew,<- hm];have:m=0\/m=1:=by omega
   rcases this with rfl|rfl <;> rfl
 . intro u hu
   simp at hu;rcases hu with rfl|rfl <;> rfl
 . refine h v' w' ⟨owB_of fun m hm=>?_,?_⟩ ((hbel.mono hB).trans ((Below.refl _ _).grown h7 (by simp;omega) fun k hk=>(World.ownsRow.lt hf.2 k hk).1))
   . by_cases e:m<O.length
     . have:=hown.1 m
       rw[List.getD_eq_getElem?_getD,List.getElem?_append_left e,<- List.getD_eq_getElem?_getD];exact this
     . have e2:m=O.length:=by simp at hm;omega
       subst e2;rw[List.getD_eq_getElem?_getD,List.getElem?_append_right (Nat.le_refl _)];simpa using ⟨hi,hj⟩
   . rw[List.length_append,ownC_append];exact h6
theorem grPoss_yes(g:Int)(h1:0<=g)(h2:g<12)(w:World):Calls Tryz.prog 183 #[.int .i64 g] w fun e w'=>e=.returned (.bool true)/\w=w':=by
 go_enter Tryz.func183,Tryz.ntmps183;go_wp2;go_ret;exact⟨rfl,rfl⟩
theorem grForm_any(i a:Int)(hi0:0<=i)(hi:i<=65535)(ha0:0<=a)(ha:a<=65535)(w:World):
 Calls Tryz.prog 179 #[.agg #[.int .u16 i,.int .u16 a]] w fun e w'=>e=.returned (.bool (frmO i a))/\Below w.heap.size w w':=by
 have hob:=Zaa w (.cells #[.int .u16 i,.int .u16 a] 109);obtain⟨B,hB⟩:∃ B,B=frmO i a:=⟨_,rfl⟩;rw[<- hB];unfold frmO at hB;by_cases h0:i=0
 . rw[if_pos (.inl h0)] at hB
   subst h0;cases hd:decide (a=0)
   all_goals
    rw[hd] at hB;have HB:=hid hB;have hda:(a==0)=_:=hd;clear hB hd;go_enter Tryz.func179,Tryz.ntmps179;go_wp2;go_ret;exact⟨by rw[HB.out];rfl,hob⟩
 . have e0:(i==0)=false:=by simpa using h0
   by_cases h1:i=65535
   . rw[if_pos (.inr h1)] at hB
     subst h1;cases hd:decide (a=0)
     all_goals
      rw[hd] at hB;have HB:=hid hB;have hda:(a==0)=_:=hd;clear hB hd h0;go_enter Tryz.func179,Tryz.ntmps179;go_wp2;go_ret;exact⟨by rw[HB.out];rfl,hob⟩
   . rw[if_neg (by omega)] at hB
     have e1:(i==65535)=false:=by simpa using h1
     by_cases h2:i=65534
     . rw[if_pos h2] at hB
       subst h2;cases hd:decide (a<6)
       all_goals
        rw[hd] at hB;have HB:=hid hB;clear hB h0 h1;go_enter Tryz.func179,Tryz.ntmps179;go_wp2;go_ret;exact⟨by rw[HB.out];rfl,hob⟩
     . rw[if_neg h2] at hB
       have e2:(i==65534)=false:=by simpa using h2
       clear h0 h1 h2;by_cases h3:i<48
       . by_cases h4:a<138
         . have HB:Hid (B=true):=hid (by rw[hB];simp[h3,h4])
           clear hB;go_enter Tryz.func179,Tryz.ntmps179;go_wp2;go_ret;exact⟨by rw[HB.out];rfl,hob⟩
         . have hda:(a==65535)=B:=by rw[hB,decide_eq_true h3,decide_eq_false h4];rfl
           have hb2:B=true\/B=false:=by cases B <;> simp
           clear hB;rcases hb2 with rfl|rfl
           all_goals
            go_enter Tryz.func179,Tryz.ntmps179;go_wp2;go_ret;exact⟨rfl,hob⟩
       . have HB:Hid (B=false):=hid (by rw[hB];simp[h3])
         clear hB;go_enter Tryz.func179,Tryz.ntmps179;go_wp2;go_ret;exact⟨by rw[HB.out];rfl,hob⟩
theorem Zgj(i a:Int)(hi:0<=i/\i<=65535)(ha:0<=a/\a<=65535)(B:Bool)(h:frmO i a=B)(w:World):
 Calls Tryz.prog 179 #[.agg #[.int .u16 i,.int .u16 a]] w fun e w'=>e=.returned (.bool B)/\Below w.heap.size w w':=by
 rw[<- h];exact grForm_any i a hi.1 hi.2 ha.1 ha.2 w
theorem grAll_len{w:World}(ao:Option Addr)(len cap:Nat)(h:len≠64):Calls Tryz.prog 145 #[.slice ao len cap] w fun e w'=>e=.returned (.bool false)/\w=w':=by
 have hne:((len:Int) != 64)=true:=by simp;omega
 go_enter Tryz.func145,Tryz.ntmps145;go_wp2;go_ret;exact⟨rfl,rfl⟩
theorem grAll_64{w:World}{b off cap:Nat}{O:List (Int × Int)}(hO:O.length=64)(hB:OwB O)(hb:b<w.heap.size)
 (hc:∀ j,j<O.length->w.cell? ⟨b,off+j*2,none⟩=some (.int .u16 (O.getD j (0,0)).1)/\w.cell? ⟨b,off+j*2+1,none⟩=some (.int .u16 (O.getD j (0,0)).2)):
 Calls Tryz.prog 145 #[.slice (some ⟨b,off,none⟩) 64 cap] w fun e w'=>e=.returned (.bool (allO O))/\Below w.heap.size w w':=by
 obtain⟨R,hR⟩:∃ R,R=allO O:=⟨_,rfl⟩;rw[<- hR];have HC:=hid hc;have HO:=hid hO;have HBB:=hid hB;have hRR:R=frmK O 64:=by rw[hR,allO,hO];rfl
 have HR:=hid hRR;clear hc hO hB hR hRR;go_enter Tryz.func145,Tryz.ntmps145;go_wp2;go_loopw [10] (fun i wr=>∃ k:Nat,k<=64/\i=.int .i64 k/\Hid (frmK O k=true)/\Below w.heap.size w wr) (fun i _=>64-(intOf i).toNat)
 case atStart=>exact⟨0,by omega,rfl,rfl,Below.refl _ _⟩
 case round=>
  obtain⟨k,hk,rfl,HK,hbr⟩:=hrel;by_cases hlt:k<64
  . have hck:=HC.out k (by rw[HO.out];exact hlt)
    have hbd:=HBB.out k;have hj:frmJ O k=frmO (O.getD k (0,0)).1 (O.getD k (0,0)).2:=rfl;obtain⟨x,hx⟩:∃ x,x=(O.getD k (0,0)).1:=⟨_,rfl⟩;obtain⟨y,hy⟩:∃ y,y=(O.getD k (0,0)).2:=⟨_,rfl⟩;rw[<- hx,<- hy] at hck hbd hj;have c1:=(hbr.cell (p:=⟨b,off+k*2,none⟩) hb).trans hck.1;have c2:=(hbr.cell (p:=⟨b,off+k*2+1,none⟩) hb).trans hck.2;have ek:(k:Int)<64:=by omega
    clear hx hy hck;cases hf:frmO x y
    . have HF:=hid hf
      rw[hf] at hj;have HJ:=hid hj;clear hf hj;go_wp2_with (go_at_call 179;refine(Zgj x y hbd.1 hbd.2 false HF.out _).mono ?_;rintro e w2 ⟨rfl,hb2⟩)
      go_ret;exact⟨ret_bool (by rw[HR.out,frmK_no HJ.out hlt]),(hbr.trans ((Zaa _ _).mono hbr.size)).trans (hb2.mono (by have:=hbr.size;simp;omega))⟩
    . have HF:=hid hf
      rw[hf] at hj;have HJ:=hid hj;clear hf hj;go_wp2_with (go_at_call 179;refine(Zgj x y hbd.1 hbd.2 true HF.out _).mono ?_;rintro e w2 ⟨rfl,hb2⟩)
      go_roundw
      case rel=>exact⟨k+1,by omega,by go_num,by show frmK O (k+1)=true;rw[frmK,HK.out,HJ.out];rfl,(hbr.trans ((Zaa _ _).mono hbr.size)).trans (hb2.mono (by have:=hbr.size;simp;omega))⟩
      case measure=>simp[intOf];omega
  . obtain rfl:k=64:=by omega
    go_wp2;go_ret;exact⟨ret_bool (by rw[HR.out,HK.out]),hbr⟩
theorem grAll_any{w:World}{v:Value}{O:List (Int × Int)}(hs:OwSl w v O):Calls Tryz.prog 145 #[v] w fun e w'=>e=.returned (.bool (allO O))/\Below w.heap.size w w':=by
 by_cases h:O.length=64
 . obtain⟨b,off,cap,rfl,hb,hc⟩:=hs.at (by omega)
   rw[h];exact grAll_64 h hs.1 hb hc
 . obtain⟨ao,cap,rfl⟩:=hs.shape
   refine(grAll_len ao _ cap h).mono fun e w' ⟨he,hw⟩=>⟨?_,by rw[<- hw];exact Below.refl _ _⟩
   rw[he,allO,decide_eq_false h];rfl
end Go.Proofs.YtedabomlfcghoaaGreat
namespace Go.Proofs.YtedabomlfcghoaaGreat
set_option maxRecDepth 100000
open Go.RowKit
theorem Zjc(b:Int)(hm:b<=9223372036854775807)(w:World):Calls Tryz.prog 50 #[.int .i64 b] w fun e w'=>e=.returned (.bool (frmB b))/\w=w':=by
 by_cases h1:64<=b
 . by_cases h3:b<=768
   . have h0:0<=b:=by omega
     by_cases h2:b%64=0
     . have hr:frmB b=true:=decide_eq_true (by omega)
       rw[hr];have h2':(b%64==0)=true:=by simp[h2]
       clear hr h2;go_enter Tryz.func50,Tryz.ntmps50;go_wp2;go_ret;exact⟨rfl,rfl⟩
     . have hr:frmB b=false:=decide_eq_false (by omega)
       rw[hr];have h2':(b%64==0)=false:=by simp[h2]
       clear hr h2;go_enter Tryz.func50,Tryz.ntmps50;go_wp2;go_ret;exact⟨rfl,rfl⟩
   . have hr:frmB b=false:=decide_eq_false (by omega)
     rw[hr];clear hr;go_enter Tryz.func50,Tryz.ntmps50;go_wp2;go_ret;exact⟨rfl,rfl⟩
 . have hr:frmB b=false:=decide_eq_false (by omega)
   rw[hr];clear hr;go_enter Tryz.func50,Tryz.ntmps50;go_wp2;go_ret;exact⟨rfl,rfl⟩
theorem rFormed_yes(k:Nat)(h1:1<=k)(h2:k<=12)(w:World):Calls Tryz.prog 50 #[.int .i64 (64*(k:Int))] w fun e w'=>e=.returned (.bool true)/\w=w':=by
 have:=Zjc (64*(k:Int)) (by omega) w;rw[frm_mk k h1 h2] at this;exact this
theorem rFormed_no(b:Int)(hm:b<=9223372036854775807)(h:frmB b=false)(w:World):Calls Tryz.prog 50 #[.int .i64 b] w fun e w'=>e=.returned (.bool false)/\w=w':=by
 have:=Zjc b hm w;rw[h] at this;exact this
theorem rGroups_any(b:Int)(hm:b<=9223372036854775807)(w:World):Calls Tryz.prog 76 #[.int .i64 b] w fun e w'=>e=.returned (.int .i64 (grsI b))/\w=w':=by
 cases hb:frmB b
 . have hr:grsI b=0:=by unfold grsI;rw[if_neg (by simp[hb])]
   rw[hr];have HB:=hid hb;clear hb hr;go_enter Tryz.func76,Tryz.ntmps76;go_wp2_with (go_at_call 50;refine(rFormed_no b hm HB.out _).mono ?_;rintro e w' ⟨rfl,rfl⟩)
   go_ret;exact⟨rfl,rfl⟩
 . obtain⟨k,h1,h2,rfl⟩:=frm_yes hb
   have hr:grsI (64*(k:Int))=k:=by unfold grsI;rw[if_pos hb];omega
   rw[hr];clear hr hb hm;go_enter Tryz.func76,Tryz.ntmps76;go_wp2_with (go_at_call 50;refine(rFormed_yes k h1 h2 _).mono ?_;rintro e w' ⟨rfl,rfl⟩)
   go_ret;exact⟨ret_i (by omega),rfl⟩
theorem rDesc_any(g:Int)(w:World):Calls Tryz.prog 80 #[.int .i64 g] w fun e w'=>e=.returned (.int .i64 (dscI g))/\w=w':=by
 by_cases h1:g<0
 . have hr:dscI g= -1:=if_neg (by omega)
   rw[hr];clear hr;go_enter Tryz.func80,Tryz.ntmps80;go_wp2;go_ret;exact⟨rfl,rfl⟩
 . by_cases h2:11<g
   . have hr:dscI g= -1:=if_neg (by omega)
     rw[hr];clear hr;go_enter Tryz.func80,Tryz.ntmps80;go_wp2;go_ret;exact⟨rfl,rfl⟩
   . by_cases h3:g=0
     . subst h3
       rw[show dscI 0=1 from rfl];clear h1 h2;go_enter Tryz.func80,Tryz.ntmps80;go_wp2;go_ret;exact⟨rfl,rfl⟩
     . have hr:dscI g=g*64:=by unfold dscI;rw[if_pos ⟨by omega,by omega⟩,if_neg h3]
       rw[hr];have h3':(g==0)=false:=by simp[h3]
       have h4:0<=g:=by omega
       have h5:g<=11:=by omega
       clear hr h3;go_enter Tryz.func80,Tryz.ntmps80;go_wp2;go_ret;exact⟨ret_i (by omega),rfl⟩
theorem rOwners_any(g:Int)(w:World):Calls Tryz.prog 81 #[.int .i64 g] w fun e w'=>e=.returned (.int .i64 (ownI g))/\w=w':=by
 by_cases h:0<=g/\g<12
 . have hr:ownI g=dscI g+1:=if_pos h
   rw[hr];obtain⟨h1,h2⟩:=h;obtain⟨d1,d2⟩:=dsc_bd g h1 h2;clear hr;go_enter Tryz.func81,Tryz.ntmps81;go_wp2_with (go_at_call 80;refine(rDesc_any g _).mono ?_;rintro e w' ⟨rfl,rfl⟩)
   go_ret;exact⟨rfl,rfl⟩
 . have hr:ownI g= -1:=if_neg h
   have hd:dscI g= -1:=if_neg h;rw[hr];have HD:∀ w,Calls Tryz.prog 80 #[.int .i64 g] w fun e w'=>e=.returned (.int .i64 (-1))/\w=w':=fun w=>by
    have:=rDesc_any g w;rw[hd] at this;exact this
   clear hr h hd;go_enter Tryz.func81,Tryz.ntmps81;go_wp2_with (go_at_call 80;refine(HD _).mono ?_;rintro e w' ⟨rfl,rfl⟩)
   go_ret;exact⟨rfl,rfl⟩
theorem Zlf(n:Int)(hm:n<=9223372036854775807)(w:World):Calls Tryz.prog 51 #[.int .i64 n] w fun e w'=>e=.returned (.bool (fixB n))/\w=w':=by
 by_cases h1:n<0
 . have hr:fixB n=false:=decide_eq_false (by omega)
   rw[hr];clear hr;go_enter Tryz.func51,Tryz.ntmps51;go_wp2;go_ret;exact⟨rfl,rfl⟩
 . by_cases h2:768<=n
   . have hr:fixB n=false:=decide_eq_false (by omega)
     rw[hr];clear hr;go_enter Tryz.func51,Tryz.ntmps51;go_wp2;go_ret;exact⟨rfl,rfl⟩
   . by_cases h3:n<64
     . by_cases h4:n<43
       . have hr:fixB n=true:=decide_eq_true (by omega)
         rw[hr];clear hr;go_enter Tryz.func51,Tryz.ntmps51;go_wp2;go_ret;exact⟨rfl,rfl⟩
       . have hr:fixB n=(n==63):=by rw[Bool.eq_iff_iff];unfold fixB;simp only[decide_eq_true_eq,beq_iff_eq];omega
         rw[hr];clear hr;go_enter Tryz.func51,Tryz.ntmps51;go_wp2;go_ret;exact⟨by simp,rfl⟩
     . have h0:0<=n:=by omega
       have hr:fixB n=decide (n%64<2):=by rw[Bool.eq_iff_iff];unfold fixB;simp only[decide_eq_true_eq];omega
       rw[hr];clear hr;go_enter Tryz.func51,Tryz.ntmps51;go_wp2;go_ret;exact⟨by simp,rfl⟩
theorem rOpnB_no(b:Int)(hm:b<=9223372036854775807)(hb:frmB b=false)(w:World):Calls Tryz.prog 28 #[.int .i64 b] w fun e w'=>e=.returned (.int .i64 0)/\w=w':=by
 have HB:=hid hb;clear hb;go_enter Tryz.func28,Tryz.ntmps28;go_wp2_with (go_at_call 50;refine(rFormed_no b hm HB.out _).mono ?_;rintro e w' ⟨rfl,rfl⟩)
 go_ret;exact⟨rfl,rfl⟩
theorem rOpnB_yes(k:Nat)(h1:1<=k)(h2:k<=12)(w:World):Calls Tryz.prog 28 #[.int .i64 (64*(k:Int))] w fun e w'=>e=.returned (.int .i64 (62*(k:Int)-42))/\w=w':=by
 have hfin:=cntO_mul k h1 h2;obtain⟨N,hN⟩:∃ N,N=64*k:=⟨_,rfl⟩;have hN1:N<=768:=by omega
 have hNI:64*(k:Int)=(N:Int):=by omega
 have HF:Calls Tryz.prog 50 #[.int .i64 (N:Int)] w fun e w'=>e=.returned (.bool true)/\w=w':=by
  rw[<- hNI];exact rFormed_yes k h1 h2 w
 rw[<- hN] at hfin;rw[hNI];have HFIN:=hid hfin;clear hN hNI hfin h1 h2;go_enter Tryz.func28,Tryz.ntmps28;go_wp2_with (go_at_call 50;refine HF.mono ?_;rintro e w' ⟨rfl,rfl⟩)
 go_loop [3,9] (fun c i=>∃ j:Nat,j<=N/\i=.int .i64 j/\c=.int .i64 (cntO j)) (fun _ i=>N-(intOf i).toNat)
 case atStart=>exact⟨0,by omega,rfl,rfl⟩
 case round=>
  obtain⟨j,hj,rfl,rfl⟩:=hrel;have hle:=cntO_le j;by_cases hlt:j<N
  . rcases hfx:fixB (j:Int) with _|_
    . have hs:cntO (j+1)=cntO j+1:=by rw[cntO,if_neg (by simp[hfx])]
      have HX:=Zlf (j:Int) (by omega) w;rw[hfx] at HX;have HS:=hid hs;clear hs hfx;go_wp2_with (go_at_call 51;refine HX.mono ?_;rintro e w' ⟨rfl,rfl⟩)
      go_round
      case rel=>exact⟨j+1,by omega,by go_num,by rw[HS.out];go_num⟩
      case measure=>simp[intOf];omega
    . have hs:cntO (j+1)=cntO j:=by rw[cntO,if_pos hfx]
      have HX:=Zlf (j:Int) (by omega) w;rw[hfx] at HX;have HS:=hid hs;clear hs hfx;go_wp2_with (go_at_call 51;refine HX.mono ?_;rintro e w' ⟨rfl,rfl⟩)
      go_round
      case rel=>exact⟨j+1,by omega,by go_num,by rw[HS.out]⟩
      case measure=>simp[intOf];omega
  . go_wp2
    go_ret;obtain rfl:j=N:=by omega
    have:=HFIN.out;exact⟨ret_i (by omega),rfl⟩
theorem rRoom_any(b:Int)(hm:b<=9223372036854775807)(w:World):Calls Tryz.prog 12 #[.int .i64 b] w fun e w'=>e=.returned (.int .i64 (romI b))/\w=w':=by
 cases hb:frmB b
 . have hr:romI b=0:=by unfold romI;rw[if_neg (by simp[hb])]
   rw[hr];have HO:=rOpnB_no b hm hb w;clear hb hr;go_enter Tryz.func12,Tryz.ntmps12;go_wp2_with (go_at_call 28;refine HO.mono ?_;rintro e w' ⟨rfl,rfl⟩)
   go_ret;exact⟨rfl,rfl⟩
 . obtain⟨k,h1,h2,rfl⟩:=frm_yes hb
   rw[rom_mk k h1 h2];have HO:=rOpnB_yes k h1 h2 w;clear hb hm;go_enter Tryz.func12,Tryz.ntmps12;go_wp2_with (go_at_call 28;refine HO.mono ?_;rintro e w' ⟨rfl,rfl⟩)
   go_ret;exact⟨ret_i (by omega),rfl⟩
theorem Zjs(n:Int)(hm:n<=9223372036854775807)(B:Bool)(h:fixB n=B)(w:World):Calls Tryz.prog 51 #[.int .i64 n] w fun e w'=>e=.returned (.bool B)/\w=w':=by
 rw[<- h];exact Zlf n hm w
def Zbh(O:List (Int × Int))(j:Nat):Bool:=decide ((O.getD j (0,0)).1=0)
def cntU(O:List (Int × Int)):Nat->Nat
 |0=>0
 |k+1=>cntU O k+(if fixB (k:Int)=false/\Zbh O k=false then 1 else 0)
def Zit(O:List (Int × Int))(L g:Nat):Int:=
 match (List.range L).find? (fun k=>Zbh O ((g+k)%L)) with
 |some k=>(((g+k)%L:Nat):Int)
 |none=> -1
theorem findS_hit{O:List (Int × Int)}{L g k:Nat}(hk:k<L)(h:Zbh O ((g+k)%L)=true)(hn:∀ j,j<k->Zbh O ((g+j)%L)=false):Zit O L g=(((g+k)%L:Nat):Int):=by
 have e:(List.range L).find? (fun k=>Zbh O ((g+k)%L))=some k:=by
  rw[List.find?_eq_some_iff_append];refine⟨h,List.range k,(List.range (L-k-1)).map (k+1+·),?_,fun a ha=>by simp[hn a (List.mem_range.1 ha)]⟩;have e1:L=k+(1+(L-k-1)):=by omega
  conv=>lhs;rw[e1,List.range_add,List.range_add]
  simp[Nat.add_assoc]
 unfold Zit;rw[e]
theorem findS_none{O:List (Int × Int)}{L g:Nat}(hn:∀ j,j<L->Zbh O ((g+j)%L)=false):Zit O L g= -1:=by
 have e:(List.range L).find? (fun k=>Zbh O ((g+k)%L))=none:=by
  rw[List.find?_eq_none];intro x hx;simp[hn x (List.mem_range.1 hx)]
 unfold Zit;rw[e]
def RSp(w:World)(M:Nat->Prop)(p:Value)(n:Int)(O:List (Int × Int)):Prop:=
 ∃ b v,p=.pointer (some ⟨b,0,none⟩)/\w.heap[b]? =some (.cells #[.int .i64 n,v] 135 (0,0))/\OwR w 0 v O/\(∀ k,M k ↔ k=b\/v.ownBlock=some k)
section
variable {w:World}{M:Nat->Prop}{p:Value}{n:Int}{O:List (Int × Int)}
theorem RSp.cells(h:RSp w M p n O)(h0:0<O.length):∃ b g off cap,p=.pointer (some ⟨b,0,none⟩)/\w.cell? ⟨b,0,none⟩=some (.int .i64 n)/\w.cell? ⟨b,1,none⟩=some (.slice (some ⟨g,off,none⟩) O.length cap)/\
 ∀ j,j<O.length->w.cell? ⟨g,off+j*2,none⟩=some (.int .u16 (O.getD j (0,0)).1)/\w.cell? ⟨g,off+j*2+1,none⟩=some (.int .u16 (O.getD j (0,0)).2):=by
 obtain⟨b,v,rfl,hb,ho,_⟩:=h;obtain⟨g,off,cap,rfl,_,hc⟩:=ho.sl.at h0;refine⟨b,g,off,cap,rfl,?_,?_,fun j hj=>?_⟩
 . rw[cell_of_row _ _ _ _ _ _ hb];rfl
 . rw[cell_of_row _ _ _ _ _ _ hb];rfl
 . exact hc j hj
end
def Zis(L:Nat)(g:Int):Nat:=if g<0\/(L:Int)<=g then 0 else g.toNat
theorem Zgw(size:Int)(w:World)(h:1<=size/\size<=8):
 Calls Tryz.prog 178 #[.int .i64 size] w fun e w'=>e=.returned (.bool true)/\w=w':=by
 obtain⟨h1,h2⟩:=h;go_enter Tryz.func178,Tryz.ntmps178;go_wp2;go_ret;exact⟨rfl,rfl⟩
theorem pIsSize_no(size:Int)(w:World)(h:¬ (1<=size/\size<=8)):
 Calls Tryz.prog 178 #[.int .i64 size] w fun e w'=>e=.returned (.bool false)/\w=w':=by
 by_cases h1:1<=size
 . have h2:¬ size<=8:=fun h2=>h ⟨h1,h2⟩
   go_enter Tryz.func178,Tryz.ntmps178;go_wp2;go_ret;exact⟨rfl,rfl⟩
 . go_enter Tryz.func178,Tryz.ntmps178
   go_wp2;go_ret;exact⟨rfl,rfl⟩
theorem Zfq{w:World}{v:Value}{l:List Int}(hs:BSl w v l)(hl:l.length<=140737488355300)(n size:Int)(k:Nat)(hk:k<=8)(hk1:1<=k)(hsz:size=k)(h0:0<=n)(h1:n<18446744073709551616):
 Calls Tryz.prog 177 #[v,.int .u64 n,.int .i64 size] w (NewB w (l ++ lowB n k)):=by
 subst hsz;obtain⟨ao,cap,rfl,hcap⟩:=hs.shape;have hby:=hs.1;have hpos:=Zeq hs (w1:=w.alloc (.cells (Array.replicate (l.length+k) (.int .u8 0)) 5)) (fun p hp=>World.cell?_alloc_lt w _ p hp) l.length;rw[List.take_length] at hpos;obtain⟨N,hN⟩:∃ N,N=l.length:=⟨_,rfl⟩;rw[<- hN] at hl hcap hpos |-
 have hg2:(w.alloc (.cells (Array.replicate (N+k) (.int .u8 0)) 5)).heap[w.heap.size]? =some (.cells (List.replicate (N+k) (Value.int .u8 0)).toArray 5 (0,0)):=by
  rw[heap_alloc_new];simp
 have hcl:(l.map (Value.int .u8)).length=N:=by rw[List.length_map,<- hN]
 have hmm:N=Nat.min N N:=by simp
 have hfit:0+(l.map (Value.int .u8)).length<=(List.replicate (N+k) (Value.int .u8 0)).length:=by rw[List.length_map,<- hN];simp
 have HN:=hid hN;have HG:=hid hg2;have HC:=hid hcl;have HM:=hid hmm;have HF:=hid hfit;have HP:=hid hpos;have HBY:=hid hby;have hbl:Below w.heap.size w (w.alloc (.cells (Array.replicate (N+k) (.int .u8 0)) 5)):=(Below.refl _ _).alloc (Nat.le_refl _) _;have hkm:k<=9223372036854775807:=by omega
 have hnk:N+k<=200000000000000:=by omega
 clear hN hg2 hcl hmm hfit hpos hby hs;go_enter Tryz.func177,Tryz.ntmps177
 go_wp2_with (first
  |(go_at_call 178;refine(Zgw _ _ ⟨by omega,by omega⟩).mono ?_;rintro e w' ⟨rfl,rfl⟩)
  |(at_make;refine Zbn _ rfl _ _ rfl _ _ N (N+k) rfl rfl rfl (by push_cast;rfl) (by omega) (by omega) ?_)
  |(with_reducible refine Zbc rfl _ _ 30 30 rfl 5 Tryz.underlying30 (by kernel_rfl) _ _ _ _ _ _ rfl rfl w.heap.size 0 (List.replicate (N+k) (Value.int .u8 0)) 5 HG.out (l.map (Value.int .u8)) N HC.out HM.out (fun h=>⟨rfl,HP.out h⟩) HF.out (ints_oneCell _ _) ?_;intro w2 HG3 HW2))
 have hb2:Below w.heap.size w w2:=hbl.trans (HW2.below (Nat.le_refl _));have hob:OB w2 w.heap.size (.slice (some ⟨w.heap.size,0,none⟩) N (N+k)) l:=by
  have h3:=HG3.out;rw[HN.out];refine OB.of_heap (rest:=List.replicate k (Value.int .u8 0)) HBY.out (Nat.le_refl _) ?_ (by simp) (by simp only[maxLen];have:=HN.out;omega);rw[h3];simp[splice,HN.out]
 clear HG3 HW2
 go_loopw [1,7,22] (fun c u i wr=>∃ (j:Nat) (m:Int),j<=k/\i=.int .i64 j/\c=.int .u64 m/\0<=m/\m<18446744073709551616/\Hid (m=n / 2 ^ (8*j))/\Hid (OB wr w.heap.size u (l ++ lowB n j))/\Below w.heap.size w wr)
  (fun _ _ i _=>k-(intOf i).toNat)
 case atStart=>exact⟨0,n,by omega,rfl,rfl,h0,h1,by simp[Hid],by simp[Hid,Zhz];exact hob,hb2⟩
 case round=>
  obtain⟨j,m,hj,rfl,rfl,hm0,hm1,HM2,HO,hbr⟩:=hrel;by_cases hlt:j<k
  . have hlen:(l ++ lowB n j).length+1<=140737488355328:=by rw[List.length_append,Zac,<- HN.out];omega
    have HLE:=hid hlen;clear hlen;go_wp2_with (at_builtin;refine Zdg wr _ rfl _ _ rfl w.heap.size _ _ rfl HO.out ⟨by omega,by omega⟩ rfl HLE.out hbr.size ?_;intro v' w3 hob3 hb3)
    go_roundw
    case rel=>
     refine⟨j+1,m / 256,by omega,by go_num,rfl,by omega,by omega,?_,?_,hbr.trans (hb3)⟩
     . show _=_
       rw[HM2.out,<- shr_step];rfl
     . show OB _ _ _ _
       rw[Zia,<- List.append_assoc,<- HM2.out];exact hob3
    case measure=>simp[intOf];omega
  . go_wp2_with fail
    go_ret;obtain rfl:j=k:=by omega
    exact⟨_,rfl,HO.out,hbr⟩
theorem pGet_at{w:World}{b off cap:Nat}{l:List Int}(hby:Byt l)(hl:l.length<=140737488355300)
 (hc:∀ j,j<l.length->w.cell? ⟨b,off+j,none⟩=some (.int .u8 (l.getD j 0))) (a k:Nat) (hk1:1<=k) (hk:k<=8) (hak:a+k<=l.length):
 Calls Tryz.prog 144 #[.slice (some ⟨b,off,none⟩) l.length cap,.int .i64 a,.int .i64 k] w fun e w'=>e=.returned (.tuple #[.int .u64 (getV l a k),.bool true])/\w=w':=by
 obtain⟨N,hN⟩:∃ N,N=l.length:=⟨_,rfl⟩;rw[<- hN] at hl hc hak |-
 have HN:=hid hN;have HC:=hid hc;have HB:=hid (Zbo hby);have HBY:=hid hby;clear hN hc hby;go_enter Tryz.func144,Tryz.ntmps144;go_wp2_with (go_at_call 178;refine(Zgw _ _ ⟨by omega,by omega⟩).mono ?_;rintro e w' ⟨rfl,rfl⟩)
 go_loop [8,9] (fun c i=>∃ (j:Nat) (m:Int),j<=k/\i=.int .i64 ((j:Int)-1)/\c=.int .u64 m/\Hid (m=getV l (a+j) (k-j)))
  (fun _ i=>(intOf i+1).toNat)
 case atStart=>exact⟨k,0,by omega,rfl,rfl,by simp[Hid,getV_zero]⟩
 case round=>
  obtain⟨j,m,hj,rfl,rfl,HM⟩:=hrel;have hb:=Zcz HB.out (a+j) (k-j);rw[<- HM.out] at hb;by_cases hlt:1<=j
  . have hp:=Zgb (show k-j<=7 by omega)
    have hm1:m<72057594037927936:=by omega
    have hm0:=hb.1;have hx:=HBY.out (a+j-1);have hcx:=HC.out (a+j-1) (by omega);obtain⟨x,hx'⟩:∃ x,x=l.getD (a+j-1) 0:=⟨_,rfl⟩;rw[<- hx'] at hx hcx;have HX:=hid hx';clear hx' hb hp;have e1:(a:Int)+((j:Int)-1)<(N:Int):=by omega
    have e2:((a:Int)+((j:Int)-1)).toNat=a+j-1:=by omega
    go_wp2_with fail
    go_round
    case rel=>
     refine⟨j-1,_,by omega,by congr 1;omega,rfl,?_⟩;show _=_
     have h8:=or_low m x 8 hm0 hx.1 (by omega) (by omega) (by omega);rw[show m*2 ^ 8=m*256 from rfl] at h8;rw[h8,show k-(j-1)=k-j+1 by omega,getV_head l _ _ (by have:=HN.out;omega),show a+(j-1)=a+j-1 by omega,<- HX.out,show a+j-1+1=a+j by omega,<- HM.out];omega
    case measure=>simp[intOf];omega
  . go_wp2_with fail
    go_ret2;obtain rfl:j=0:=by omega
    exact⟨by rw[HM.out];simp,rfl⟩
theorem pGet_no{w:World}{ao:Option Addr}{len cap:Nat}(hl:len<=140737488355300)(a k:Int)(h0: -9223372036854775808<=a)(h1:a<=9223372036854775807)(h:¬ (1<=k/\k<=8/\0<=a/\a+k<=len)):
 Calls Tryz.prog 144 #[.slice ao len cap,.int .i64 a,.int .i64 k] w fun e w'=>e=.returned (.tuple #[.int .u64 0,.bool false])/\w=w':=by
 by_cases hk:1<=k/\k<=8
 . by_cases ha:0<=a
   . have hh:(len:Int)-k<a:=by omega
     have hk8:=hk.2;have hk1:=hk.1;go_enter Tryz.func144,Tryz.ntmps144;go_wp2_with (go_at_call 178;refine(Zgw _ _ hk).mono ?_;rintro e w' ⟨rfl,rfl⟩)
     go_ret2;exact⟨rfl,rfl⟩
   . have ha':a<0:=by omega
     go_enter Tryz.func144,Tryz.ntmps144;go_wp2_with (go_at_call 178;refine(Zgw _ _ hk).mono ?_;rintro e w' ⟨rfl,rfl⟩)
     go_ret2;exact⟨rfl,rfl⟩
 . go_enter Tryz.func144,Tryz.ntmps144
   go_wp2_with (go_at_call 178;refine(pIsSize_no _ _ hk).mono ?_;rintro e w' ⟨rfl,rfl⟩)
   go_ret2;exact⟨rfl,rfl⟩
theorem pSum_some{w:World}{b off cap:Nat}{l:List Int}(hl:l.length<=140737488355300)(hby:Byt l)
 (hc:∀ j,j<l.length->w.cell? ⟨b,off+j,none⟩=some (.int .u8 (l.getD j 0))):
 Calls Tryz.prog 186 #[.slice (some ⟨b,off,none⟩) l.length cap] w fun e w'=>e=.returned (.int .u32 (sumS l))/\w=w':=by
 obtain⟨N,hN⟩:∃ N,N=l.length:=⟨_,rfl⟩;rw[<- hN] at hl hc |-
 have HN:=hid hN;have HC:=hid hc;have HBY:=hid hby;clear hN hc hby;go_enter Tryz.func186,Tryz.ntmps186;go_wp2_with fail
 go_loop [3,8] (fun c i=>∃ (j:Nat) (m:Int),j<=N/\i=.int .i64 j/\c=.int .u32 m/\0<=m/\m<4294967296/\Hid (m=sumS (l.take j))) (fun _ i=>N-(intOf i).toNat)
 case atStart=>exact⟨0,_,by omega,rfl,rfl,by omega,by omega,rfl⟩
 case round=>
  obtain⟨j,m,hj,rfl,rfl,hm0,hm1,HM⟩:=hrel;by_cases hlt:j<N
  . have hx:=HBY.out j
    have hcx:=HC.out j hlt;obtain⟨x,hx'⟩:∃ x,x=l.getD j 0:=⟨_,rfl⟩;rw[<- hx'] at hx hcx;have HX:=hid hx';clear hx';go_wp2_with fail
    go_round
    case rel=>
     refine⟨j+1,_,by omega,by go_num,rfl,(Zdk m x).1,(Zdk m x).2,?_⟩;show _=_
     rw[sumS_take l j (by have:=HN.out;omega),<- HM.out,<- HX.out];rfl
    case measure=>simp[intOf];omega
  . go_wp2_with fail
    go_ret;exact⟨Zjb (by rw[HM.out,List.take_of_length_le (by have:=HN.out;omega)]),rfl⟩
theorem pSum_zero{w:World}{ao:Option Addr}{cap:Nat}:
 Calls Tryz.prog 186 #[.slice ao 0 cap] w fun e w'=>e=.returned (.int .u32 (sumS []))/\w=w':=by
 go_enter Tryz.func186,Tryz.ntmps186;go_wp2_with fail
 refine wp_loop_rounds 1 ?_;rw[rounds_succ];go_wp2_with fail
 go_ret;exact⟨rfl,rfl⟩
theorem pSum_any{w:World}{v:Value}{l:List Int}(hs:BSl w v l)(hl:l.length<=140737488355300):
 Calls Tryz.prog 186 #[v] w fun e w'=>e=.returned (.int .u32 (sumS l))/\w=w':=by
 by_cases h0:l.length=0
 . obtain⟨ao,cap,rfl,_⟩:=hs.shape
   obtain rfl:l=[]:=List.eq_nil_of_length_eq_zero h0;exact pSum_zero
 . rcases hs.2 with⟨_,rfl⟩| ⟨⟨b,off,spot⟩,cap,rfl,_,hc⟩
   . simp at h0
   . obtain rfl:spot=none:=(hc 0 (by omega)).2.1
     exact pSum_some hl hs.1 fun j hj=>(hc j hj).2.2
theorem rSum_some{w:World}{b off cap:Nat}{l:List Int}(hl:l.length<=140737488355300)(hby:Byt l)
 (hc:∀ j,j<l.length->w.cell? ⟨b,off+j,none⟩=some (.int .u8 (l.getD j 0))):
 Calls Tryz.prog 168 #[.slice (some ⟨b,off,none⟩) l.length cap] w fun e w'=>e=.returned (.int .u32 (sumS l))/\w=w':=by
 obtain⟨N,hN⟩:∃ N,N=l.length:=⟨_,rfl⟩;rw[<- hN] at hl hc |-
 have HN:=hid hN;have HC:=hid hc;have HBY:=hid hby;clear hN hc hby;go_enter Tryz.func168,Tryz.ntmps168;go_wp2_with fail
 go_loop [3,7] (fun c i=>∃ (j:Nat) (m:Int),j<=N/\i=.int .i64 j/\c=.int .u32 m/\0<=m/\m<4294967296/\Hid (m=sumS (l.take j))) (fun _ i=>N-(intOf i).toNat)
 case atStart=>exact⟨0,_,by omega,rfl,rfl,by omega,by omega,rfl⟩
 case round=>
  obtain⟨j,m,hj,rfl,rfl,hm0,hm1,HM⟩:=hrel;by_cases hlt:j<N
  . have hx:=HBY.out j
    have hcx:=HC.out j hlt;obtain⟨x,hx'⟩:∃ x,x=l.getD j 0:=⟨_,rfl⟩;rw[<- hx'] at hx hcx;have HX:=hid hx';clear hx';go_wp2_with fail
    go_round
    case rel=>
     refine⟨j+1,_,by omega,by go_num,rfl,(Zdk m x).1,(Zdk m x).2,?_⟩;show _=_
     rw[sumS_take l j (by have:=HN.out;omega),<- HM.out,<- HX.out];rfl
    case measure=>simp[intOf];omega
  . go_wp2_with fail
    go_ret;exact⟨Zjb (by rw[HM.out,List.take_of_length_le (by have:=HN.out;omega)]),rfl⟩
theorem rSum_zero{w:World}{ao:Option Addr}{cap:Nat}:
 Calls Tryz.prog 168 #[.slice ao 0 cap] w fun e w'=>e=.returned (.int .u32 (sumS []))/\w=w':=by
 go_enter Tryz.func168,Tryz.ntmps168;go_wp2_with fail
 refine wp_loop_rounds 1 ?_;rw[rounds_succ];go_wp2_with fail
 go_ret;exact⟨rfl,rfl⟩
theorem rSum_any{w:World}{v:Value}{l:List Int}(hs:BSl w v l)(hl:l.length<=140737488355300):
 Calls Tryz.prog 168 #[v] w fun e w'=>e=.returned (.int .u32 (sumS l))/\w=w':=by
 by_cases h0:l.length=0
 . obtain⟨ao,cap,rfl,_⟩:=hs.shape
   obtain rfl:l=[]:=List.eq_nil_of_length_eq_zero h0;exact rSum_zero
 . rcases hs.2 with⟨_,rfl⟩| ⟨⟨b,off,spot⟩,cap,rfl,_,hc⟩
   . simp at h0
   . obtain rfl:spot=none:=(hc 0 (by omega)).2.1
     exact rSum_some hl hs.1 fun j hj=>(hc j hj).2.2
def getN(l:List Int)(a k:Int):Int:=if 1<=k/\k<=8/\0<=a/\a+k<=l.length then getV l a.toNat k.toNat else 0
def gotB(l:List Int)(a k:Int):Bool:=decide (1<=k/\k<=8/\0<=a/\a+k<=l.length)
theorem pGet_any{w:World}{v:Value}{l:List Int}(hs:BSl w v l)(hl:l.length<=140737488355300)(a k:Int)(h0: -9223372036854775808<=a)(h1:a<=9223372036854775807):
 Calls Tryz.prog 144 #[v,.int .i64 a,.int .i64 k] w fun e w'=>e=.returned (.tuple #[.int .u64 (getN l a k),.bool (gotB l a k)])/\w=w':=by
 by_cases h:1<=k/\k<=8/\0<=a/\a+k<=l.length
 . rcases hs.2 with⟨_,rfl⟩| ⟨⟨b,off,spot⟩,cap,rfl,_,hc⟩
   . simp at h;omega
   . obtain rfl:spot=none:=(hc 0 (by omega)).2.1
     have:=pGet_at (cap:=cap) hs.1 hl (fun j hj=>(hc j hj).2.2) a.toNat k.toNat (by omega) (by omega) (by omega);rw[show((a.toNat:Nat):Int)=a by omega,show((k.toNat:Nat):Int)=k by omega] at this;simp only[getN,gotB,if_pos h,decide_eq_true h];exact this
 . obtain⟨ao,cap,rfl,_⟩:=hs.shape
   simp only[getN,gotB,if_neg h,decide_eq_false h];exact pGet_no hl a k h0 h1 h
theorem Zhx{w:World}{v:Value}{l:List Int}(hs:BSl w v l)(hl:l.length<=140737488355300)(n size:Int)(k:Nat)(hk:k<=8)(hk1:1<=k)(hsz:size=k)(h0:0<=n)(h1:n<18446744073709551616):
 Calls Tryz.prog 127 #[v,.int .u64 n,.int .i64 size] w (NewB w (l ++ lowB n k)):=by
 subst hsz;obtain⟨ao,cap,hv,_⟩:=hs.shape;have hlen:([]:List Int).length+l.length<=140737488355328:=by simp;omega
 obtain⟨N,hN⟩:∃ N,N=l.length:=⟨_,rfl⟩;rw[<- hN] at hv hl;subst hv;have HS:=hid hs;have HL:=hid hlen;have HN:=hid hN;clear hs hlen hN;go_enter Tryz.func127,Tryz.ntmps127;go_wp2_with (at_builtin;refine Zah _ rfl _ _ rfl w.heap.size _ [] rfl (ob_empty w) w _ l rfl HS.out (fun p hp=>World.cell?_alloc_lt w _ p hp) HL.out (by simp) ?_;intro v2 w2 hob2 hb2 _)
 have hbe:Below w.heap.size w w2:=((Below.refl _ _).alloc (Nat.le_refl _) _).trans hb2;rw[List.nil_append] at hob2;clear hb2
 go_loopw [7,20] (fun u i wr=>∃ j:Nat,j<=k/\i=.int .i64 j/\Hid (OB wr w.heap.size u (l ++ lowB n j))/\Below w.heap.size w wr)
  (fun _ i _=>k-(intOf i).toNat)
 case atStart=>exact⟨0,by omega,rfl,by simp[Hid,Zhz];exact hob2,hbe⟩
 case round=>
  obtain⟨j,hj,rfl,HO,hbr⟩:=hrel;by_cases hlt:j<k
  . have hlen:(l ++ lowB n j).length+1<=140737488355328:=by rw[List.length_append,Zac,<- HN.out];omega
    have HLE:=hid hlen;have hx0:0<=n / 2 ^ (8*j)%256/\n / 2 ^ (8*j)%256<=255:=by omega
    clear hlen;go_wp2_with (at_builtin;refine Zdg wr _ rfl _ _ rfl w.heap.size _ _ rfl HO.out hx0 rfl HLE.out hbr.size ?_;intro v' w3 hob3 hb3)
    go_roundw
    case rel=>
     refine⟨j+1,by omega,by go_num,?_,hbr.trans hb3⟩;show OB _ _ _ _
     rw[Zia,<- List.append_assoc];exact hob3
    case measure=>simp[intOf];omega
  . go_wp2_with fail
    go_ret;obtain rfl:j=k:=by omega
    exact⟨_,rfl,HO.out,hbr⟩
end Go.Proofs.YtedabomlfcghoaaGreat
namespace Go.Proofs.YtedabomlfcghoaaGreat
set_option maxRecDepth 100000
open Go.RowKit
theorem Zfd(m:Nat):Builtin.zeroCells (Value.int .u8 0).cells m=Array.replicate m (.int .u8 0):=by
 apply Array.ext
 . simp[Builtin.zeroCells,Value.cells]
 . intro j h1 h2
   simp[Builtin.zeroCells,Value.cells,Nat.mod_one]
theorem wrap_zero:IntKind.i64.wrap 0=0:=by decide
theorem run_append_zeros(w:World)(B:Nat)(ty:TypeId)(v:Value)(n:Nat)(xs:List Value)(hown:w.ownsRow B 5 1 v n xs)(m:Nat)(hlen:n+m<=140737488355328)(hB:B<=w.heap.size):
 ∃ v' w',(Builtin.append_ #[30,3] ty #[v,.int .i64 m]).run Tryz.prog w=.ok v' w'/\w'.ownsRow B 5 1 v' (n+m) (xs ++ List.replicate m (.int .u8 0))/\w.grownBy w' v.ownBlock:=by
 obtain⟨i,h2,h3,h4,h5⟩:=info_parts Zke;have hxl:xs.length=n:=by simpa using hown.1
 have hm1:IntKind.i64.wrap (m:Int)=m:=by rw[IntKind.wrap_i64];omega
 have hm2:¬ (m:Int)<0:=by omega
 have hm3:¬ 281474976710656<(m:Int):=by omega
 have hlen2:(xs ++ List.replicate m (Value.int .u8 0)).length=(n+m)*1:=by simp[hxl]
 have grown:∀ (old:Nat),old<n+m->∀ (row:Option Nat),
  (w.drew.alloc (.cells (xs.toArray ++ Array.replicate m (.int .u8 0) ++ Array.replicate (grownCap w (n+m) old 5-(n+m)) (.int .u8 0)) 5)).ownsRow B 5 1
    (.slice (some ⟨w.heap.size,0,none⟩) (n+m) (grownCap w (n+m) old 5)) (n+m) (xs ++ List.replicate m (.int .u8 0))/\
  w.grownBy (w.drew.alloc (.cells (xs.toArray ++ Array.replicate m (.int .u8 0) ++ Array.replicate (grownCap w (n+m) old 5-(n+m)) (.int .u8 0)) 5)) row:=by
  intro old ho row;have hge:=grownCap_ge w (n+m) old 5;have hcm:grownCap w (n+m) old 5<=maxLen:=grownCap_le_maxLen w (n+m) old 5 (by simp only[maxLen];omega);refine⟨⟨hlen2,.inr ⟨w.heap.size,_,_,rfl,hB,heap_alloc_new w.drew _,hge,hcm,?_,?_⟩⟩,⟨rfl,rfl,rfl,by simp,fun k hk _=>@Go.heap_alloc_old w.drew _ _ hk⟩⟩
  . simp[hxl];omega
  . simp only[Array.toList_append,Array.toList_replicate]
    rw[<- hlen2,List.take_left']
    . rfl
 have hz:(if m=0 then (pure #[]:Sem (Array Value)) else pure (Builtin.zeroCells (Value.int .u8 0).cells m))=pure (Array.replicate m (.int .u8 0)):=by
  by_cases h0:m=0
  . subst h0;simp
  . rw[if_neg h0,Zfd]
 rcases hown.2 with⟨rfl,rfl⟩| ⟨g,cap,cur,rfl,hbg,hg,hnc,hcm,hcs,htake⟩
 . obtain rfl:xs=[]:=List.eq_nil_of_length_eq_zero hxl
   by_cases hm:m=0
   . subst hm
     refine⟨.slice none 0 0,w,?_,World.ownsRow_nil w B 5 1,⟨rfl,rfl,rfl,Nat.le_refl _,fun _ _ _=>rfl⟩⟩;simp[Builtin.append_,run_underlying Tryz.underlying30,run_underlying Tryz.underlying3,sizeOf,typeInfo,h2,h5,asInt,asIntOf,wrap_zero]
   . have hgr:=grown 0 (by omega) (Value.ownBlock (.slice none 0 0))
     have h48:¬ (281474976710656<Builtin.nextslicecap m 0*1):=by rw[nextslicecap_zero (by omega)];omega
     simp only[Nat.zero_add,List.nil_append] at hgr |-
     refine⟨_,_,?_,hgr.1,hgr.2⟩;have hc1:¬ 9223372036854775807<(m:Int):=by omega
     simp only[Nat.mul_one] at h48;simp[Builtin.append_,run_underlying Tryz.underlying30,run_underlying Tryz.underlying3,sizeOf,typeInfo,zeroValue,h2,h3,h4,h5,asInt,asIntOf,hm1,hm2,hm3,hm,hc1,h48,Question.forced,run_firstCells_none,newRow,grownCap];simp[Zfd]
 . by_cases hroom:n+m<=cap
   . have hst:=run_storeCells_at Tryz.prog g n 5 (List.replicate m (Value.int .u8 0)) 0 cur w hg (by simp;omega) (fun u hu=>by rw[List.eq_of_mem_replicate hu];rfl)
     refine⟨_,w.setRow g (cur.toList.take n ++ List.replicate m (Value.int .u8 0) ++ cur.toList.drop (n+m)).toArray,?_,⟨hlen2,.inr ⟨g,cap,_,rfl,hbg,setRow_heap w g cur _ 5 _ hg,hroom,hcm,?_,?_⟩⟩,⟨rfl,rfl,rfl,by simp,fun k _ hk=>setRow_other w g k _ (fun e=>hk (by simp[Value.ownBlock,e]))⟩⟩
     . by_cases hm:m=0
       . subst hm
         simp[Builtin.append_,run_underlying Tryz.underlying30,run_underlying Tryz.underlying3,sizeOf,typeInfo,h2,h5,asInt,asIntOf,wrap_zero,hnc,storeCells];exact(setRow_self w g cur 5 (0,0) hg).symm
       . simp[Builtin.append_,run_underlying Tryz.underlying30,run_underlying Tryz.underlying3,sizeOf,typeInfo,zeroValue,h2,h3,h4,h5,asInt,asIntOf,hm1,hm2,hm3,hm,hroom]
         rw[Zfd,Array.toList_replicate,Addr.add_lit,Nat.zero_add,hst];simp
     . simp;omega
     . have ht:cur.toList.take n=xs:=by simpa using htake
       rw[ht,<- hlen2,List.take_left' rfl]
   . have hgr:=grown cap (by omega) (Value.ownBlock (.slice (some ⟨g,0,none⟩) n cap))
     refine⟨_,_,?_,hgr.1,hgr.2⟩;have hn:¬ (n+m<=cap):=hroom;have hm0:m≠0:=by omega
     have h63':¬ (9223372036854775807<((n:Int)+(m:Int))):=by omega
     have h48:=growslice_fits (bytes:=1) (show cap<n+m by omega) (by omega);have h48':¬ (281474976710656<Builtin.nextslicecap (n+m) cap):=by omega
     have hfo:=run_firstCells_some (P:=Tryz.prog) w.drew 1 n ⟨g,0,none⟩ n cap xs (by simpa using hxl) (by
      have hc:w.ownsRow B 5 1 (.slice (some ⟨g,0,none⟩) n cap) n xs:=hown;exact hc.cells (g:=g) rfl)
     simp[Builtin.append_,run_underlying Tryz.underlying30,run_underlying Tryz.underlying3,sizeOf,typeInfo,zeroValue,h2,h3,h4,h5,asInt,asIntOf,hm1,hm2,hm3,hm0,hn,h63',h48',Question.forced,hfo,newRow,grownCap,Zfd]
theorem Zeo(w:World){ops:Array Oper}{rest:List Oper}{o:Oper}{a:Act}{Q:Exit->Act->World->Prop}(hgd:o.guard=none)(s x:Operand)
 (ho:o.op=.call { callee:=.builtin .append,args:=#[s,x],argTypes:=#[30,3] })
 (B:Nat) (v:Value) (l:List Int) (hs:a.eval s=v) (hown:OB w B v l) (C:Int) (m:Nat) (hx:a.eval x=.int .i64 C) (hC:C=m) (hlen:l.length+m<=140737488355328) (hB:B<=w.heap.size)
 (h:∀ v' w',OB w' B v' (l ++ List.replicate m 0)->Below B w w'->wpList Tryz.prog ops Q rest (a.put o.dst v') w'):wpList Tryz.prog ops Q (o :: rest) a w:=by
 subst hC;obtain⟨v',w',hr,h2,h3⟩:=run_append_zeros w B o.type v l.length _ hown.2 m hlen hB;refine wpList_plain hgd fun K hK=>?_
 unfold Oper.wp execOp;simp only[ho,resolve,invoke,builtin,Sem.run_bind,Sem.run_pure,Result.andThen_ok,List.map_toArray,List.map_cons,List.map_nil,hs,hx,hr];refine hK _ _ (h v' w' ⟨Zdc hown.1 (Zba m),?_⟩ ((Below.refl _ _).grown h3 hB fun k hk=>(hown.2.lt k hk).1))
 simpa using h2
end Go.Proofs.YtedabomlfcghoaaGreat
