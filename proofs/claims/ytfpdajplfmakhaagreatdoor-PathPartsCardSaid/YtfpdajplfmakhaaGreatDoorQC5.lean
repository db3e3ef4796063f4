/- What the law rests on. -/
import Derived.Maps.Keyed
import Derived.WideKeyEntry
import Derived.ArgAppend
import Derived.ChangeMaps5
import Derived.Maps.Own
import Derived.Maps.OwnSet
import Derived.Maps.Views
import Derived.Lib.SlKeysI
import Derived.Lib.SlMapMerge
import Derived.Shelf.SlIterI.Nil
import Derived.Shelf.SlMaps.Copy
import Derived.Shelf.SortM.Plain
import Derived.Shelf.SortM.SortNone
import Derived.Shelf.SlGeneric
import Derived.Maps.RangeWalk
import Derived.Test.YtfpdajplfmakhaaGreatDoorQC4
open Go.Value renaming int->J,slice->Ak,pointer->Al,tuple->AH,bool->AP,agg->BN
open Go.IntKind renaming i64->Y
open Go.Proofs.Tryz renaming prog->I
open Option renaming none->K,some->Z
open Go renaming World->V,Value->C,Calls->A,Oper->BE,wpList->Cf,TypeId->Cg
open Go.Ending renaming returned->f
open Go.Obj renaming cells->Am
open Go.RowKit renaming Below->Ap
open List renaming replicate->Aw,range->Bu
open Bool renaming false->H,true->E
open Or renaming inl->AU,inr->AW
namespace Go.Proofs.YtfpdajplfmakhaaGreatDoor
set_option maxHeartbeats 12000000
set_option linter.unusedVariables false
set_option maxRecDepth 100000
theorem Bi:type_of% @List.not_mem_nil:=@List.not_mem_nil
theorem BB:type_of% @of_decide_eq_false:=@of_decide_eq_false
theorem CB:type_of% @List.getElem?_set_self:=@List.getElem?_set_self
theorem Di:type_of% @Go.callsIn_wide:=@Go.callsIn_wide
theorem D0:type_of% @Prod.mk.inj:=@Prod.mk.inj
section
open Go.RowKit
def di(kd:Int):Int:=if kd=3 then 200 else 35328
def zeroI:List Int:=[0,0,0,0,0,0,0,0,0,0,0,0,0,0]
def Ma(kd ln sz mp:Int)(D:List Int):Bool:=decide (1<=kd/\kd<=3) && (decide (0<=ln/\ln<=200) && (decide (0<=sz/\sz<=di kd) && (FT D && Uf mp)))
def Ec(L:List Int):Bool:=if L.getD 0 0=0 then decide (L=zeroI) else Ma (L.getD 0 0) (L.getD 1 0) (L.getD 2 0) (L.getD 13 0) ((L.drop 3).take 10)
theorem TT(kd:Int)(h:1<=kd/\kd<=3)(w:V):A I 88 #[J Y kd] w fun e w'=>e=f (AH #[J Y (di kd),AP E])/\w=w':=by
 have:kd=1\/kd=2\/kd=3:=by omega
 rcases this with rfl|rfl|rfl
 all_goals
  clear h;go_enter Tryz.func88,Tryz.ntmps88;go_wp2;go_ret2;exact⟨rfl,rfl⟩
theorem Wn(kd:Int)(h:¬ (1<=kd/\kd<=3))(w:V):A I 88 #[J Y kd] w fun e w'=>e=f (AH #[J Y 0,AP H])/\w=w':=by
 have h1:(kd==1)=H:=by simp;omega
 have h2:(kd==2)=H:=by simp;omega
 have h3:(kd==3)=H:=by simp;omega
 clear h;go_enter Tryz.func88,Tryz.ntmps88;go_wp2;go_ret2;exact⟨rfl,rfl⟩
theorem Yv(kd ln sz d0 d1 d2 d3 d4 d5 d6 d7 d8 d9 mp:Int)(h:kd=0)(w:V):A I 47 #[BN #[J Y kd,J Y ln,J Y sz,J Y d0,J Y d1,J Y d2,J Y d3,J Y d4,J Y d5,J Y d6,J Y d7,J Y d8,J Y d9,J Y mp]] w fun e w'=>e=f (AP (decide ([kd,ln,sz,d0,d1,d2,d3,d4,d5,d6,d7,d8,d9,mp]=zeroI)))/\Ap w.heap.size w w':=by
 have hb:=As w (Am #[J Y kd,J Y ln,J Y sz,J Y d0,J Y d1,J Y d2,J Y d3,J Y d4,J Y d5,J Y d6,J Y d7,J Y d8,J Y d9,J Y mp] 44);have hr:=Ar w (Am #[J Y kd,J Y ln,J Y sz,J Y d0,J Y d1,J Y d2,J Y d3,J Y d4,J Y d5,J Y d6,J Y d7,J Y d8,J Y d9,J Y mp] 44);have NS:(w.alloc (Am #[J Y kd,J Y ln,J Y sz,J Y d0,J Y d1,J Y d2,J Y d3,J Y d4,J Y d5,J Y d6,J Y d7,J Y d8,J Y d9,J Y mp] 44)).rangeAt w.heap.size 0 (iC [kd,ln,sz,d0,d1,d2,d3,d4,d5,d6,d7,d8,d9,mp]):=Gn hr;have HRG:=wM NS;have u1:=Tryz.underlying44;clear hr NS;have hk:(kd==0)=E:=by simp[h]
 clear h;go_enter Tryz.func47,Tryz.ntmps47
 go_wp2_with (first
  |(with_reducible refine Bw rfl 44 (.tmp 1) rfl w.heap.size 0 rfl [kd,ln,sz,d0,d1,d2,d3,d4,d5,d6,d7,d8,d9,mp] _ HRG.out u1 rfl rfl ?_)
  |(with_reducible refine Uk rfl (.tmp 8) (.tmp 9) rfl [kd,ln,sz,d0,d1,d2,d3,d4,d5,d6,d7,d8,d9,mp] zeroI rfl rfl rfl rfl ?_))
 go_ret;exact⟨rfl,hb⟩
theorem OC(W:V)(a:Addr):(Instr.sliceAt 42 (Al (Z a)) K K K).run I W=.ok (Ak (Z a) 10 10) W:=by
 obtain⟨i,h2,h3,h4,h5⟩:=Bf TH;have l10:I.arrayLen 42=10:=by kernel_rfl
 have e10:I.elem 42=3:=by kernel_rfl
 obtain⟨a1,a2,a3⟩:=a;simp[Instr.sliceAt,B9 Tryz.underlying42,sizeOf,typeInfo,h2,Addr.add,Instr.sureAddr,Instr.sliceBounds]
theorem XT(kd ln sz d0 d1 d2 d3 d4 d5 d6 d7 d8 d9 mp:Int)(h0:kd≠0)(h:¬ (1<=kd/\kd<=3))(w:V):A I 47 #[BN #[J Y kd,J Y ln,J Y sz,J Y d0,J Y d1,J Y d2,J Y d3,J Y d4,J Y d5,J Y d6,J Y d7,J Y d8,J Y d9,J Y mp]] w fun e w'=>e=f (AP H)/\Ap w.heap.size w w':=by
 have hb:=As w (Am #[J Y kd,J Y ln,J Y sz,J Y d0,J Y d1,J Y d2,J Y d3,J Y d4,J Y d5,J Y d6,J Y d7,J Y d8,J Y d9,J Y mp] 44);have KL:=wM (Wn kd h);have hk:(kd==0)=H:=by simp[h0]
 clear h h0;go_enter Tryz.func47,Tryz.ntmps47
 go_wp2_with (first
  |(go_at_call 88;with_reducible refine(KL.out _).mono ?_;rintro e w' ⟨rfl,rfl⟩))
 go_ret;exact⟨rfl,hb⟩
theorem nY(kd ln sz d0 d1 d2 d3 d4 d5 d6 d7 d8 d9 mp:Int)(h:1<=kd/\kd<=3)(w:V):A I 47 #[BN #[J Y kd,J Y ln,J Y sz,J Y d0,J Y d1,J Y d2,J Y d3,J Y d4,J Y d5,J Y d6,J Y d7,J Y d8,J Y d9,J Y mp]] w fun e w'=>e=f (AP (Ma kd ln sz mp [d0,d1,d2,d3,d4,d5,d6,d7,d8,d9]))/\Ap w.heap.size w w':=by
 have hb:=As w (Am #[J Y kd,J Y ln,J Y sz,J Y d0,J Y d1,J Y d2,J Y d3,J Y d4,J Y d5,J Y d6,J Y d7,J Y d8,J Y d9,J Y mp] 44);have hr:(w.alloc (Am #[J Y kd,J Y ln,J Y sz,J Y d0,J Y d1,J Y d2,J Y d3,J Y d4,J Y d5,J Y d6,J Y d7,J Y d8,J Y d9,J Y mp] 44)).heap[w.heap.size]? =Z (iO [kd,ln,sz,d0,d1,d2,d3,d4,d5,d6,d7,d8,d9,mp] 44):=Ar w _;have KL:=wM (TT kd h);have hk:(kd==0)=H:=by simp;omega
 have hsl:=OC (w.alloc (Am #[J Y kd,J Y ln,J Y sz,J Y d0,J Y d1,J Y d2,J Y d3,J Y d4,J Y d5,J Y d6,J Y d7,J Y d8,J Y d9,J Y mp] 44)) ⟨w.heap.size,3,K⟩;unfold Ma;rw[Az h,AG];obtain⟨M,hM⟩:=nm (di kd);rw[<- hM] at KL |-
 clear hM h;obtain⟨B1,h1⟩:∃ B,decide (0<=ln/\ln<=200)=B:=⟨_,rfl⟩;obtain⟨B2,h2⟩:∃ B,decide (0<=sz/\sz<=M)=B:=⟨_,rfl⟩;obtain⟨B3,h3⟩:∃ B,FT [d0,d1,d2,d3,d4,d5,d6,d7,d8,d9]=B:=⟨_,rfl⟩;obtain⟨B4,h4⟩:∃ B,Uf mp=B:=⟨_,rfl⟩;rw[h1,h2,h3,h4];have hd:ISl (w.alloc (Am #[J Y kd,J Y ln,J Y sz,J Y d0,J Y d1,J Y d2,J Y d3,J Y d4,J Y d5,J Y d6,J Y d7,J Y d8,J Y d9,J Y mp] 44)) (Ak (Z ⟨w.heap.size,3,K⟩) 10 10) [d0,d1,d2,d3,d4,d5,d6,d7,d8,d9]:=AW ⟨_,_,rfl,fun j hj=>by
  refine⟨by simp,rfl,?_⟩;have hj:j<10:=hj;have hx:=Gp hr (3+j) (by simp;omega);show(w.alloc _).cell? ⟨w.heap.size,3+j,K⟩=_
  rw[hx,show 3+j=j+3 by omega];have:j=0\/j=1\/j=2\/j=3\/j=4\/j=5\/j=6\/j=7\/j=8\/j=9:=by omega
  rcases this with rfl|rfl|rfl|rfl|rfl|rfl|rfl|rfl|rfl|rfl <;> rfl⟩
 have K1:=wM (LV ln 200 B1 h1);have K2:=wM (LV sz M B2 h2);have KD:=wM (In hd (by simp) B3 h3);have K4:=wM (Kl mp B4 h4);clear h1 h2 h3 h4 hd hr;cases B1
 case false=>
  go_enter Tryz.func47,Tryz.ntmps47
  go_wp2_with (first
   |(go_at_call 88;with_reducible refine(KL.out _).mono ?_;rintro e w' ⟨rfl,rfl⟩)
   |(go_at_call 89;with_reducible refine(K1.out _).mono ?_;rintro e w' ⟨rfl,rfl⟩)
   |(go_at_call 89;with_reducible refine(K2.out _).mono ?_;rintro e w' ⟨rfl,rfl⟩)
   |(go_at_call 90;refine KD.out.mono ?_;rintro e w' ⟨rfl,rfl⟩)
   |(go_at_call 91;with_reducible refine(K4.out _).mono ?_;rintro e w' ⟨rfl,rfl⟩))
  go_ret;exact⟨rfl,hb⟩
 cases B2
 case false=>
  go_enter Tryz.func47,Tryz.ntmps47
  go_wp2_with (first
   |(go_at_call 88;with_reducible refine(KL.out _).mono ?_;rintro e w' ⟨rfl,rfl⟩)
   |(go_at_call 89;with_reducible refine(K1.out _).mono ?_;rintro e w' ⟨rfl,rfl⟩)
   |(go_at_call 89;with_reducible refine(K2.out _).mono ?_;rintro e w' ⟨rfl,rfl⟩)
   |(go_at_call 90;refine KD.out.mono ?_;rintro e w' ⟨rfl,rfl⟩)
   |(go_at_call 91;with_reducible refine(K4.out _).mono ?_;rintro e w' ⟨rfl,rfl⟩))
  go_ret;exact⟨rfl,hb⟩
 cases B3
 case false=>
  go_enter Tryz.func47,Tryz.ntmps47
  go_wp2_with (first
   |(go_at_call 88;with_reducible refine(KL.out _).mono ?_;rintro e w' ⟨rfl,rfl⟩)
   |(go_at_call 89;with_reducible refine(K1.out _).mono ?_;rintro e w' ⟨rfl,rfl⟩)
   |(go_at_call 89;with_reducible refine(K2.out _).mono ?_;rintro e w' ⟨rfl,rfl⟩)
   |(go_at_call 90;refine KD.out.mono ?_;rintro e w' ⟨rfl,rfl⟩)
   |(go_at_call 91;with_reducible refine(K4.out _).mono ?_;rintro e w' ⟨rfl,rfl⟩))
  go_ret;exact⟨rfl,hb⟩
 cases B4
 case false=>
  go_enter Tryz.func47,Tryz.ntmps47
  go_wp2_with (first
   |(go_at_call 88;with_reducible refine(KL.out _).mono ?_;rintro e w' ⟨rfl,rfl⟩)
   |(go_at_call 89;with_reducible refine(K1.out _).mono ?_;rintro e w' ⟨rfl,rfl⟩)
   |(go_at_call 89;with_reducible refine(K2.out _).mono ?_;rintro e w' ⟨rfl,rfl⟩)
   |(go_at_call 90;refine KD.out.mono ?_;rintro e w' ⟨rfl,rfl⟩)
   |(go_at_call 91;with_reducible refine(K4.out _).mono ?_;rintro e w' ⟨rfl,rfl⟩))
  go_ret;exact⟨rfl,hb⟩
 case true=>
  go_enter Tryz.func47,Tryz.ntmps47
  go_wp2_with (first
   |(go_at_call 88;with_reducible refine(KL.out _).mono ?_;rintro e w' ⟨rfl,rfl⟩)
   |(go_at_call 89;with_reducible refine(K1.out _).mono ?_;rintro e w' ⟨rfl,rfl⟩)
   |(go_at_call 89;with_reducible refine(K2.out _).mono ?_;rintro e w' ⟨rfl,rfl⟩)
   |(go_at_call 90;refine KD.out.mono ?_;rintro e w' ⟨rfl,rfl⟩)
   |(go_at_call 91;with_reducible refine(K4.out _).mono ?_;rintro e w' ⟨rfl,rfl⟩))
  go_ret;exact⟨rfl,hb⟩
theorem ie{L:List Int}(hL:L.length=14)(w:V):A I 47 #[BN (iC L).toArray] w fun e w'=>e=f (AP (Ec L))/\Ap w.heap.size w w':=by
 match L,hL with
 |[kd,ln,sz,d0,d1,d2,d3,d4,d5,d6,d7,d8,d9,mp],_=>
  show A I 47 #[BN #[J Y kd,J Y ln,J Y sz,J Y d0,J Y d1,J Y d2,J Y d3,J Y d4,J Y d5,J Y d6,J Y d7,J Y d8,J Y d9,J Y mp]] w fun e w'=>e=f (AP (if kd=0 then decide ([kd,ln,sz,d0,d1,d2,d3,d4,d5,d6,d7,d8,d9,mp]=zeroI) else Ma kd ln sz mp [d0,d1,d2,d3,d4,d5,d6,d7,d8,d9]))/\Ap w.heap.size w w'
  by_cases h0:kd=0
  . rw[Au h0];exact Yv kd ln sz d0 d1 d2 d3 d4 d5 d6 d7 d8 d9 mp h0 w
  . rw[Ax h0]
    by_cases h:1<=kd/\kd<=3
    . exact nY kd ln sz d0 d1 d2 d3 d4 d5 d6 d7 d8 d9 mp h w
    . have e:Ma kd ln sz mp [d0,d1,d2,d3,d4,d5,d6,d7,d8,d9]=H:=by unfold Ma;rw[AB h];rfl
      rw[e];exact XT kd ln sz d0 d1 d2 d3 d4 d5 d6 d7 d8 d9 mp h0 h w
theorem UH{L:List Int}(hL:L.length=14)(B:Bool)(h:Ec L=B)(w:V):A I 47 #[BN (iC L).toArray] w fun e w'=>e=f (AP B)/\Ap w.heap.size w w':=by
 rw[<- h];exact ie hL w
def w7(j:Nat):Nat:=if j<2 then 1 else if j=2 then 4 else 2
def p7:Nat->Nat
 |0=>0
 |j+1=>p7 j+w7 j
theorem jJ(j:Nat):1<=w7 j/\w7 j<=4:=by unfold w7;split <;> (try split) <;> omega
theorem Nm(j:Nat):w7 (3+j)=2:=by unfold w7;rw[Ax (by omega),Ax (by omega)]
theorem XH:∀ j,p7 (3+j)=6+2*j
 |0=>rfl
 |j+1=>by
  have:=XH j;show p7 (3+j)+w7 (3+j)=_
  rw[this,Nm];omega
theorem qb(j:Nat)(hj:j<14):p7 j+w7 j<=28:=by
 by_cases h:j<3
 . have:j=0\/j=1\/j=2:=by omega
   rcases this with rfl|rfl|rfl <;> decide
 . obtain⟨k,rfl⟩:∃ k,j=3+k:=⟨j-3,by omega⟩
   rw[XH,Nm];omega
theorem rc:p7 14=28:=rfl
def Ge(L:List Int):Nat->List Int
 |0=>[]
 |j+1=>Ge L j ++ BT (L.getD j 0) (w7 j)
theorem EF(L:List Int):∀ j,(Ge L j).length=p7 j
 |0=>rfl
 |j+1=>by rw[Ge,AD,EF L j,Bc];rfl
def Ml(L:List Int):List Int:=Ge L 14 ++ Aw 4 0
theorem Kb(L:List Int):(Ml L).length=32:=by rw[Ml,AD,EF,A3];rfl
theorem Zt(L:List Int)(i:Nat):∀ j,i<j->∃ B,Ge L j=Ge L i ++ (BT (L.getD i 0) (w7 i) ++ B):=by
 intro j;induction j with
 |zero=>intro h;omega
 |succ j ih=>
  intro h;by_cases e:i=j
  . subst e;exact⟨[],by rw[Ge];simp⟩
  . obtain⟨B,hB⟩:=ih (by omega)
    exact⟨B ++ BT (L.getD j 0) (w7 j),by rw[Ge,hB];simp⟩
theorem H6{L:List Int}(hL:L.length=14)(h:Ec L=E)(j:Nat)(hj:j<14):0<=L.getD j 0/\L.getD j 0<256 ^ w7 j:=by
 unfold Ec at h;split at h
 . have e:=AX h
   have h0:L.getD j 0=0:=by
    rw[e]
    match j,hj with
    |0,_|1,_|2,_|3,_|4,_|5,_|6,_|7,_|8,_|9,_|10,_|11,_|12,_|13,_=>rfl
   have:=LA (w7 j);rw[h0];omega
 . unfold Ma at h
   simp only[AQ,A4] at h;obtain⟨h1,h2,h3,h4,h5⟩:=h;have hm:di (L.getD 0 0)<=35328:=by unfold di;split <;> omega
   by_cases e0:j=0
   . subst e0;rw[show w7 0=1 from rfl,Int.pow_succ,Int.pow_zero];omega
   by_cases e1:j=1
   . subst e1;rw[show w7 1=1 from rfl,Int.pow_succ,Int.pow_zero];omega
   by_cases e2:j=2
   . subst e2;rw[show w7 2=4 from rfl,show(256:Int) ^ 4=4294967296 from rfl];omega
   obtain⟨k,rfl⟩:∃ k,j=3+k:=⟨j-3,by omega⟩;rw[Nm,show(256:Int) ^ 2=65536 from rfl];by_cases ek:k=10
   . subst ek
     have:=inB_iff.1 h5;show 0<=L.getD 13 0/\L.getD 13 0<65536
     omega
   . have hd:=inB_iff.1 ((Fa _).1 h4 k (by simp[hL];omega))
     have e:((L.drop 3).take 10).getD k 0=L.getD (3+k) 0:=by
      simp only[An,AZ,Bk];rw[Au (by omega)]
     rw[e] at hd;omega
def je(c:List Int):List Int:=(Bu 14).map fun j=>Cl c (p7 j) (w7 j)
theorem Jp(c:List Int):(je c).length=14:=by simp[je]
theorem og(c:List Int)(j:Nat)(hj:j<14):(je c).getD j 0=Cl c (p7 j) (w7 j):=by
 simp[je,hj]
theorem rl{L M:List Int}(h:L.length=14)(h':M.length=14)(e:∀ j,j<14->L.getD j 0=M.getD j 0):L=M:=by
 apply Bg (by rw[h,h']);intro i h1 h2;have:=e i (by omega)
 simpa [h1,h2] using this
theorem mR{L:List Int}(hL:L.length=14)(h:Ec L=E):je (Ml L)=L:=by
 refine rl (Jp _) hL fun j hj=>?_
 rw[og _ _ hj,Ml];obtain⟨B,hB⟩:=Zt L j 14 hj;obtain⟨h0,h1⟩:=H6 hL h j hj;rw[hB,A7,A7,<- EF L j];exact aD _ _ _ _ h0 h1
def G0(c:List Int)(j:Nat):List Int:=(Bu 14).map fun i=>if i<j then Cl c (p7 i) (w7 i) else 0
theorem G6(c:List Int)(j:Nat):(G0 c j).length=14:=by simp[G0]
theorem fG(c:List Int)(j:Nat):(G0 c j).set j (Cl c (p7 j) (w7 j))=G0 c (j+1):=by
 apply Bg (by rw[AF,G6,G6]);intro i h1 h2;simp only[G0,Ef,Co,Cc];by_cases e:j=i
 . subst e;rw[Au rfl,Au (by omega)]
 . rw[Ax e]
   by_cases h:i<j
   . rw[Au h,Au (by omega)]
   . rw[Ax h,Ax (by omega)]
theorem ZG(c:List Int):G0 c 14=je c:=by
 unfold G0 je;apply Ck;intro i hi;rw[Au (Bd.1 hi)]
theorem XF(c:List Int):G0 c 0=zeroI:=by
 unfold G0;rw[Ck (g:=fun _=>(0:Int)) (fun i _=>Ax (A9 _))];rfl
theorem ud{c:List Int}(hb:Fv c)(j:Nat):0<=Cl c (p7 j) (w7 j)/\Cl c (p7 j) (w7 j)<4294967296:=by
 have h:=EL (C3 hb) (p7 j) (w7 j);have:=Hm (jJ j).2;have e:(256:Int) ^ 4=4294967296:=rfl;omega
def G7(O:List (List Int)):Bool:=decide (O.length=8) && O.all Ec
def F4(O:List (List Int)):Prop:=∀ x∈O,x.length=14
theorem Hj{O:List (List Int)}(h:F4 O)(k:Nat)(hk:k<O.length):(O.getD k []).length=14:=by
 have:O.getD k []=O[k]:=by simp[hk]
 rw[this];exact h _ (Be hk)
theorem TE(O:List (List Int)):O.all Ec=E ↔ ∀ j,j<O.length->Ec (O.getD j [])=E:=by
 rw[Dh];constructor
 . intro h j hj
   have:O.getD j []=O[j]:=(by simp[hj]);rw[this];exact h _ (Be hj)
 . intro h x hx
   obtain⟨j,hj,rfl⟩:=Cw hx;have:=h j hj
   simpa [hj] using this
theorem QT{O:List (List Int)}(h8:O.length=8)(h:∀ j,j<8->Ec (O.getD j [])=E):G7 O=E:=by
 unfold G7;rw[Az h8,AG,TE,h8];exact h
theorem aV{O:List (List Int)}{k:Nat}(h8:O.length=8)(hk:k<8)(h:Ec (O.getD k [])=H):G7 O=H:=by
 cases ha:G7 O
 . rfl
 . unfold G7 at ha
   rw[AQ] at ha;have:=(TE O).1 ha.2 k (by omega);rw[h] at this;cases this
theorem jV{O:List (List Int)}(h:G7 O=E):O.length=8/\∀ j,j<8->Ec (O.getD j [])=E:=by
 unfold G7 at h;rw[AQ] at h;have h8:=AX h.1;refine⟨h8,fun j hj=>(TE O).1 h.2 j (by omega)⟩
def EQ(O:List (List Int)):Nat->List Int
 |0=>[]
 |k+1=>EQ O k ++ Ml (O.getD k [])
theorem Fp(O:List (List Int)):∀ k,(EQ O k).length=32*k
 |0=>rfl
 |k+1=>by rw[EQ,AD,Fp O k,Kb];omega
def Gw(O:List (List Int)):List Int:=EQ O 8
def Md(l:List Int)(k:Nat):List Int:=(l.drop (32*k)).take 32
theorem TA{l:List Int}(h:l.length=256)(k:Nat)(hk:k<8):(Md l k).length=32:=by simp[Md];omega
theorem UO(O:List (List Int))(i:Nat):∀ j,i<j->∃ B,EQ O j=EQ O i ++ (Ml (O.getD i []) ++ B):=by
 intro j;induction j with
 |zero=>intro h;omega
 |succ j ih=>
  intro h;by_cases e:i=j
  . subst e;exact⟨[],by rw[EQ];simp⟩
  . obtain⟨B,hB⟩:=ih (by omega)
    exact⟨B ++ Ml (O.getD j []),by rw[EQ,hB];simp⟩
theorem bU(O:List (List Int))(k:Nat)(hk:k<8):Md (Gw O) k=Ml (O.getD k []):=by
 obtain⟨B,hB⟩:=UO O k 8 hk;unfold Md Gw;rw[hB,<- Fp O k,List.drop_left,<- Kb (O.getD k []),List.take_left]
def tR(l:List Int)(k:Nat):List Int:=je (Md l k)
def Uh(l:List Int)(n:Nat):List (List Int):=(Bu n).map (tR l)
theorem LD(l:List Int)(n:Nat):(Uh l n).length=n:=by simp[Uh]
theorem rS(l:List Int)(n:Nat):F4 (Uh l n):=fun x hx=>by
 obtain⟨j,_,rfl⟩:=BZ.1 hx;exact Jp _
def EW(l:List Int)(n k:Nat):List (List Int):=(Bu n).map fun j=>if j<k then tR l j else zeroI
theorem F9(l:List Int)(n k:Nat):(EW l n k).length=n:=by simp[EW]
theorem U5(l:List Int)(n k:Nat):(EW l n k).set k (tR l k)=EW l n (k+1):=by
 apply Bg (by rw[AF,F9,F9]);intro i h1 h2;simp only[EW,Ef,Co,Cc];by_cases e:k=i
 . subst e;rw[Au rfl,Au (by omega)]
 . rw[Ax e]
   by_cases h:i<k
   . rw[Au h,Au (by omega)]
   . rw[Ax h,Ax (by omega)]
theorem SW(l:List Int)(n:Nat):EW l n 0=Aw n zeroI:=by
 rw[List.eq_replicate_iff];refine⟨F9 l n 0,fun x hx=>?_⟩;obtain⟨i,_,rfl⟩:=BZ.1 hx;rw[Ax (by omega)]
theorem T4(l:List Int)(n:Nat):EW l n n=Uh l n:=by
 unfold EW Uh;apply Ck;intro i hi;rw[Au (Bd.1 hi)]
theorem XP(l:List Int)(n k:Nat):F4 (EW l n k):=fun x hx=>by
 obtain⟨j,_,rfl⟩:=BZ.1 hx;split
 . exact Jp _
 . rfl
def qX(l:List Int):Prop:=l.length=256/\G7 (Uh l 8)=E/\Gw (Uh l 8)=l
theorem Z1{O:List (List Int)}(hO:F4 O)(h:G7 O=E):Uh (Gw O) 8=O:=by
 obtain⟨h8,hf⟩:=jV h;apply Bg (by rw[LD,h8]);intro i h1 h2;have hi:i<8:=by omega
 have e:O.getD i []=O[i]:=by simp[h2]
 simp only[Uh,Co,Cc,tR];rw[bU O i hi,mR (Hj hO i h2) (hf i hi),e]
theorem ko{O:List (List Int)}(hO:F4 O)(h:G7 O=E):qX (Gw O):=by
 have e:=Z1 hO h;exact⟨by rw[Gw,Fp],by rw[e];exact h,by rw[e]⟩
end
section
open Go.RowKit BM
def Jy(N:List (List Int))(t:Nat):List (List Int):=(N.drop (8*t)).take 8
theorem Ie{N:List (List Int)}{t:Nat}(h:N.length=48)(ht:t<6):(Jy N t).length=8:=by
 unfold Jy;rw[AJ,Bn];omega
theorem PF(N:List (List Int))(t:Nat){j:Nat}(hj:j<8):(Jy N t).getD j []=N.getD (8*t+j) []:=by
 unfold Jy;rw[An,AZ,Au hj,Bk,An]
structure NOk (N:List (List Int)):Prop where
 len:N.length=48
 l14:F4 N
 frm:∀ j,j<48->Ec (N.getD j [])=E
theorem NOk.get{N:List (List Int)}(h:NOk N){j:Nat}(hj:j<48):(N.getD j []).length=14:=Hj h.l14 j (by rw[h.len];exact hj)
theorem To{N:List (List Int)}(h:F4 N)(t:Nat):F4 (Jy N t):=fun x hx=>h x (List.mem_of_mem_drop (DB hx))
theorem NOk.all{N:List (List Int)}(h:NOk N){t:Nat}(ht:t<6):F4 (Jy N t)/\G7 (Jy N t)=E:=
 ⟨To h.l14 t,QT (Ie h.len ht) fun j hj=>by rw[PF N t hj];exact h.frm _ (by omega)⟩
def CW(S:List Int)(t:Nat):Nat:=(num S (6+t)).toNat
structure Tab (G:List (List Int)) (S:List Int) (N:List (List Int)):Prop where
 s12:S.length=12
 sf:DP S=E
 n:NOk N
 g0:G.getD 0 []=Gj S
 g63:G.getD 63 []=Gj S
 tb:∀ t,t<6->G.getD (CW S t) []=Gw (Jy N t)
 le:num S 0<=G.length
theorem BF{α:Type}(G:List α){i m:Nat}(x d:α)(h:m≠i):(G.set i x).getD m d=G.getD m d:=by
 rw[An,Bp (CT h),<- An]
theorem E9{S:List Int}(hf:DP S=E){t:Nat}(ht:t<6):num S (6+t)=(CW S t:Int)/\(CW S t:Int)<num S 0/\num S 0<=768/\CR (CW S t:Int)=H/\D6 (CW S t)/\CW S t≠0/\CW S t≠63:=by
 obtain⟨h1,_,h3⟩:=Ni hf;obtain⟨k,k1,k12,hk⟩:=Tv h1;obtain⟨⟨a1,a2⟩,a3,_⟩:=Kx h3 t ht;have e:num S (6+t)=(CW S t:Int):=by unfold CW;omega
 rw[e] at a1 a2 a3;have hx:=BB a3;refine⟨e,by omega,by omega,a3,?_,by omega,by omega⟩;unfold D6;omega
theorem V5{S:List Int}:(Gj S).length=256:=by rw[Gj];exact Dm _ (by rw[YN];decide)
theorem Qj(O:List (List Int)):(Gw O).length=256:=Fp O 8
def Eb(kk:Nat):List Int:=[64*(kk:Int),0,0,0,0,0,43,44,45,46,47,48]
def qg:List Int:=[2,1,0,0,0,0,0,0,0,0,0,0,0,0]
def newN:List (List Int):=(Aw 48 zeroI).set 1 qg
theorem oz:NOk newN:=by
 refine⟨rfl,?_,?_⟩
 . intro x hx
   rcases D8 hx with h|h
   . rw[BS h];rfl
   . rw[h];rfl
 . decide
theorem Pr{kk:Nat}(h1:1<=kk)(h2:kk<=12):DP (Eb kk)=E:=by
 unfold DP;have e0:num (Eb kk) 0=64*(kk:Int):=rfl;rw[e0,SS kk h1 h2,AQ,AQ];have hn:∀ k:Nat,k<6->num (Eb kk) (6+k)=43+(k:Int):=fun k hk=>by
  have hi2:k=0\/k=1\/k=2\/k=3\/k=4\/k=5:=by omega
  rcases hi2 with rfl|rfl|rfl|rfl|rfl|rfl <;> rfl
 refine⟨rfl,rfl,(I4 _ 6).2 fun i hi=>?_⟩;unfold XE;rw[e0,hn i hi];refine⟨by omega,?_,fun k hk=>by rw[hn k (by omega)];omega⟩;unfold CR;exact AB (by omega)
def T3(G:List (List Int))(c:Nat):Prop:=∀ t,t<c->G.getD (43+t) []=Gw (Jy newN t)
theorem T3.zero(G:List (List Int)):T3 G 0:=fun t h=>absurd h (A9 _)
theorem T3.put{G:List (List Int)}{k:Nat}(h:T3 G k)(hl:43+k<G.length){x:List Int}(hx:x=Gw (Jy newN k)):T3 (G.set (43+k) x) (k+1):=fun t ht=>by
 by_cases e:t=k
 . subst e;rw[An,CB hl,hx];rfl
 . rw[BF _ _ _ (by omega)];exact h t (by omega)
theorem T3.other{G:List (List Int)}{k:Nat}(h:T3 G k){i:Nat}(hi:i<43\/49<=i)(hk:k<=6)(x:List Int):T3 (G.set i x) k:=fun t ht=>by
 rw[BF _ _ _ (by omega)];exact h t ht
theorem Y0{k:Nat}(h:k<6)(h0:k≠0):Aw 8 zeroI=Jy newN k:=by
 have hi2:k=1\/k=2\/k=3\/k=4\/k=5:=by omega
 rcases hi2 with rfl|rfl|rfl|rfl|rfl <;> rfl
theorem newT_frm:G7 ((Aw 8 zeroI).set 1 qg)=E/\G7 (Aw 8 zeroI)=E:=by decide
structure New3 (G:List (List Int)) (kk:Nat):Prop where
 t:T3 G 6
 g0:G.getD 0 []=Gj (Eb kk)
 g63:G.getD 63 []=Gj (Eb kk)
theorem New3.tab{G:List (List Int)}{kk:Nat}(h:New3 G kk)(h1:1<=kk)(h2:kk<=12)(hl:G.length=64*kk):Tab G (Eb kk) newN:=
 ⟨rfl,Pr h1 h2,oz,h.g0,h.g63,fun t ht=>by
   have hi2:t=0\/t=1\/t=2\/t=3\/t=4\/t=5:=(by omega);have:=h.t t ht;rcases hi2 with rfl|rfl|rfl|rfl|rfl|rfl <;> exact this,by rw[hl];show 64*(kk:Int)<=_;omega⟩
theorem T3.sup{G:List (List Int)}(h:T3 G 6)(kk:Nat)(hl:63<G.length){x:List Int}(hx:x=Gj (Eb kk)):New3 ((G.set 0 x).set 63 x) kk:=by
 refine⟨(h.other (AU (by decide)) (by decide) x).other (AW (by decide)) (by decide) x,?_,?_⟩
 . rw[BF _ _ _ (by decide),An,CB (by omega),hx];rfl
 . rw[An,CB (by rw[AF];exact hl),hx];rfl
end
section
open Go.RowKit Go.ChangeMaps
def D7(S:List Int)(n:Int):List Int:=if n∈S then S else S ++ [n]
theorem iKeyed:Maps.Keyed I 3:=Maps.int_keyed Tryz.underlying3
theorem JR{n:Int}(h: -9223372036854775808<=n/\n<=9223372036854775807):(Lit.int Y n).wf=E:=by
 simp only[Lit.wf,AQ,A4];exact h
theorem YV{n:Int}(h:(Lit.int Y n).wf=E):keyOf I 3 (.int Y n)=Z (.int Y n):=Maps.keyOf_int_mk Tryz.underlying3 h
end
section
open Go.RowKit
structure RSt where
 is:List (List Int)
 call:List (List Int)
 put:List Int
 sts:List (List (List Int))
 wi:Bool
theorem Fs{w w':V}{B n size:Nat}{T:Cg}{v:C}{us:List C}(h:w.ownsRow B T size v n us)(hk:∀ g,v.ownBlock=Z g->w'.heap[g]? =w.heap[g]?):w'.ownsRow B T size v n us:=by
 refine⟨h.1,h.2.imp id ?_⟩;rintro⟨g,cap,cur,rfl,hB,hh,r⟩;exact⟨g,cap,cur,rfl,hB,by rw[hk g rfl];exact hh,r⟩
structure XSt where
 base:List (List Int)
 is:List (List Int)
 call:List (List Int)
 put:List Int
 wi:Bool
 dt:Nat
 ds:DS
structure XOk (X:XSt):Prop where
 lst:Lst X.is.length X.ds X.base
 pow:X.ds.dn=H
 un:X.ds.U.length<=1000
 call:X.wi=E->X.call.length=X.is.length
 dt:X.dt<=37
def Pb(n:Nat)(ds:DS)(l:List (List (List Int))):Prop:=ds.U.length<=1000/\ds.F.length=n/\∀ kp,∃ G∈l,Jst n (ds.crash kp).F G
def PO(X:XSt):Int × XSt:=if X.wi=E then (17,X) else (0,{ X with call:=X.is,put:=[],wi:=E })
def ll(X:XSt)(n:Int)(l:List Int):Int × XSt:=
 if X.wi=H then (17,X) else if n<0\/(X.is.length:Int)<=n\/l.length≠256 then (1,X) else if n ∉ X.put/\37<=X.put.length then (13,X) else (0,{ X with call:=X.call.set n.toNat l,put:=D7 X.put n })
def OK(Inv:V->(Nat->Prop)->C->C->XSt->Prop)(w:V)(P:Nat->Prop)(d p:C)(r:Int × XSt)(e:Ending)(w':V):Prop:=
 e=f (J Y r.1)/\∃ P',Inv w' P' d p r.2/\Chg P P' w w'
def pS(Dead:V->(Nat->Prop)->C->C->DS->Prop)(w:V)(P:Nat->Prop)(d p:C)(X:XSt)(l:List (List (List Int)))(e:Ending)(w':V):Prop:=
 X.ds.fu=E/\e=f (J Y 2)/\∃ P' ds',Dead w' P' d p ds'/\Chg P P' w w'/\Pb X.is.length ds' l
structure Sto (Inv:V->(Nat->Prop)->C->C->XSt->Prop) (Dead:V->(Nat->Prop)->C->C->DS->Prop):Prop where
 plain:∀ {w P d p X},Inv w P d p X->XOk X
 ptr:∀ {w P d p X},Inv w P d p X->∃ b,p=Al (Z ⟨b,0,K⟩)
 lt:∀ {w P d p X},Inv w P d p X->∀ k,P k->k<w.heap.size
 keep:∀ {w w' P d p X},Inv w P d p X->w.heap.size<=w'.heap.size->(∀ k,P k->w'.heap[k]? =w.heap[k]?)->Inv w' P d p X
 disk:∀ {w P d p X},Inv w P d p X->∃ Pd,(∀ k,Pd k->P k)/\Dk w Pd d X.ds
 deadLt:∀ {w P d p ds},Dead w P d p ds->∀ k,P k->k<w.heap.size
 deadKeep:∀ {w w' P d p ds},Dead w P d p ds->w.heap.size<=w'.heap.size->(∀ k,P k->w'.heap[k]? =w.heap[k]?)->Dead w' P d p ds
 deadDisk:∀ {w P d p ds},Dead w P d p ds->∃ Pd,(∀ k,Pd k->P k)/\Dk w Pd d ds
 begin:∀ {w P d p X},Inv w P d p X->A I 22 #[p] w (OK Inv w P d p (PO X))
 put:∀ {w P d p X n v l},Inv w P d p X->BSl w v l-> -9223372036854775808<=n/\n<=9223372036854775807->D6 n.toNat->A I 50 #[p,J Y n,v] w (OK Inv w P d p (ll X n l))
 getOut:∀ {w P d p X n},Inv w P d p X-> -9223372036854775808<=n/\n<=9223372036854775807->n<0\/(X.is.length:Int)<=n->A I 104 #[p,J Y n] w fun e w'=>e=f (AH #[Ak K 0 0,J Y 1])/\∃ P',Inv w' P' d p X/\Chg P P' w w'
 getIn:∀ {w P d p X} {n:Nat},Inv w P d p X->n<X.is.length->A I 104 #[p,J Y n] w fun e w'=>∃ v l,e=f (AH #[v,J Y 0])/\BSl w' v l/\(D6 n->l=(if X.wi=E then X.call else X.is).getD n [])/\∃ P',Inv w' P' d p X/\Chg P P' w w'
 endNo:∀ {w P d p X k},Inv w P d p X->X.wi=H->A I 25 #[p,AP k] w (OK Inv w P d p (17,X))
 endUndo:∀ {w P d p X},Inv w P d p X->X.wi=E->A I 25 #[p,AP H] w (OK Inv w P d p (0,{ X with wi:=H }))
 endKeep:∀ {w P d p X},Inv w P d p X->X.wi=E->A I 25 #[p,AP E] w fun e w'=>
  (∃ B dt ds',(B=X.base\/B=X.is\/B=X.call)/\ds'.fu=X.ds.fu/\OK Inv w P d p (0,{ X with base:=B,is:=X.call,wi:=H,dt:=dt,ds:=ds' }) e w')\/pS Dead w P d p X [X.base,X.is,X.call] e w'
 opens:∀ {w P d ds n G},Dk w P d ds->64<=n->n<=768->ds.U=[]->ds.dn=H->Jst n ds.F G->A I 38 #[d] w fun e w'=>
  (∃ p ds' P',e=f (AH #[p,J Y 0])/\ds'.fu=ds.fu/\Inv w' P' d p ⟨G,G,[],[],H,0,ds'⟩/\Chg P P' w w')\/
    (ds.fu=E/\e=f (AH #[Al K,J Y 2])/\∃ ds' P',Dk w' P' d ds'/\Chg P P' w w'/\Pb n ds' [G])
end
section
open Go.RowKit Go.Maps
def hdr(v:C):Option (DataW Unit × List MemPlace):=
 match v with
 |Ak K 0 0=>Z (.nil,[])
 |Ak (Z ⟨b,off,K⟩) n c=>Z (.agg [.lit (.int .u64 b),.lit (.int .u64 off),.lit (.int .u64 n),.lit (.int .u64 c)],[])
 |_=>K
theorem n8:hdr (Ak K 0 0)=Z (.nil,[]):=rfl
theorem jO(b off n c:Nat):hdr (Ak (Z ⟨b,off,K⟩) n c)=Z (.agg [.lit (.int .u64 b),.lit (.int .u64 off),.lit (.int .u64 n),.lit (.int .u64 c)],[]):=rfl
theorem RO{v:C}{y:DataW Unit × List MemPlace}(h:hdr v=Z y):(v=Ak K 0 0/\y=(.nil,[]))\/∃ b off n c,v=Ak (Z ⟨b,off,K⟩) n c/\y=(.agg [.lit (.int .u64 b),.lit (.int .u64 off),.lit (.int .u64 n),.lit (.int .u64 c)],[]):=by
 unfold hdr at h;split at h
 . exact AU ⟨rfl,(A0 h).symm⟩
 . exact AW ⟨_,_,_,_,rfl,(A0 h).symm⟩
 . cases h
theorem aQ{v v':C}{d:DataW Unit}{ps ps':List MemPlace}(h:hdr v=Z (d,ps))(h':hdr v'=Z (d,ps')):v=v':=by
 rcases RO h with⟨rfl,e⟩| ⟨b,off,n,c,rfl,e⟩ <;> rcases RO h' with⟨rfl,e'⟩| ⟨b',off',n',c',rfl,e'⟩
 . rfl
 . have e1:=(D0 e).1.symm.trans (D0 e').1;cases e1
 . have e1:=(D0 e).1.symm.trans (D0 e').1;cases e1
 . have e1:=(D0 e).1.symm.trans (D0 e').1
   simp only[DataW.agg.injEq,List.cons.injEq,DataW.lit.injEq,Lit.int.injEq,true_and,and_true,Int.natCast_inj] at e1;obtain⟨rfl,rfl,rfl,rfl⟩:=e1;rfl
def Mp(w:V)(b:Nat)(N:List Int)(g:Int->C):Prop:=
 ∃ D:DataW Unit,w.ownsMap I 3 hdr b N.length D/\N.Nodup/\(∀ x∈N,(Lit.int Y x).wf=E)/\(∀ x,Maps.has D (.int Y x)=decide (x∈N))/\∀ x∈N,∃ d,hdr (g x)=Z (d,[])/\∀ z,D.atKey (.int Y x) z=d
theorem mZ:(I.info? 77).map (fun i=>(i.zero,i.size,i.bytes))=Z (Z (Ak K 0 0),1,24):=by kernel_rfl
theorem ag(w:V):(zeroValue 77).run I w=.ok (Ak K 0 0) w:=by
 obtain⟨t,h2,h3,_⟩:=Bf mZ;simp[zeroValue,typeInfo,h2,h3,Result.andThen]
theorem Xv{w:V}{b n:Nat}{D:DataW Unit}(h:w.ownsMap I 3 hdr b n D):w.ownsMap I 3 hdr b (Maps.size D) D:=by
 obtain⟨es,clock,hb,F,hs,rfl⟩:=h;exact⟨es,clock,hb,F,DU (by unfold Maps.size;exact(length_read es).symm),rfl⟩
theorem Ln{w:V}{b n:Nat}{D:DataW Unit}(h:w.ownsMap I 3 hdr b n D){N:List Int}(hN:N.Nodup)(hh:∀ x,Maps.has D (.int Y x)=decide (x∈N)):N.Perm (intKeys D)/\Maps.size D=N.length:=by
 obtain⟨es,rfl,hp,_⟩:=h.entries iKeyed;have hk:∀ p∈es,∃ x,p.1=.int Y x:=fun p hp'=>by
  obtain⟨es',e1,_,k⟩:=h.canonK iKeyed;cases e1
  obtain⟨v,hv⟩:=k p hp';obtain⟨x,_,e,_⟩:=Maps.keyOf_i64 Tryz.underlying3 hv;exact⟨x,e⟩
 have hperm:=perm_intKeys hp hk hN (fun x=>by rw[hh x,A4]);refine⟨hperm,?_⟩;have:=hperm.length_eq;rw[this];show es.length=(es.map fun p=>_root_.Go.intOf p.1).length
 rw[Ba]
theorem aw{w:V}{b n:Nat}{D:DataW Unit}(h:w.ownsMap I 3 hdr b n D){N:List Int}{g:Int->C}(hN:N.Nodup)(hw:∀ x∈N,(Lit.int Y x).wf=E)(hh:∀ x,Maps.has D (.int Y x)=decide (x∈N))(hg:∀ x∈N,∃ d,hdr (g x)=Z (d,[])/\∀ z,D.atKey (.int Y x) z=d):Mp w b N g:=by
 obtain⟨_,e⟩:=Ln h hN hh;have h':=Xv h;rw[e] at h';exact⟨D,h',hN,hw,hh,hg⟩
section
variable {w:V}{b:Nat}{N:List Int}{g:Int->C}
theorem Mp.lt(h:Mp w b N g):b<w.heap.size:=by
 obtain⟨D,h,_⟩:=h;exact h.lt
theorem Mp.keep{w':V}(h:Mp w b N g)(hk:w'.heap[b]? =w.heap[b]?):Mp w' b N g:=by
 obtain⟨D,⟨es,clock,hb,r⟩,r'⟩:=h;exact⟨D,⟨es,clock,hk.trans hb,r⟩,r'⟩
theorem Mp.not_cells(h:Mp w b N g){k:Nat}{cs:Array C}{T:Cg}{z:Nat × Nat}(hk:w.heap[k]? =Z (Am cs T z)):b≠k:=fun e=>by
 obtain⟨D,⟨es,clock,hb,_⟩,_⟩:=h;rw[e,hk] at hb;cases hb
theorem Mp.nodup(h:Mp w b N g):N.Nodup:=by obtain⟨_,_,h,_⟩:=h;exact h
theorem Mp.wf(h:Mp w b N g):∀ x∈N,(Lit.int Y x).wf=E:=by obtain⟨_,_,_,h,_⟩:=h;exact h
theorem Mp.made(w:V)(g:Int->C):Mp (w.alloc (.map #[] 0)) w.heap.size [] g:=
 ⟨.map [],V.ownsMap_made w _ _ _,List.nodup_nil,fun x hx=>absurd hx Bi,fun x=>rfl,fun x hx=>absurd hx Bi⟩
theorem Mp.len(h:Mp w b N g)(ty:Cg):(Builtin.len_ #[107] ty #[.map (Z b)]).run I w=.ok (.int Y N.length) w:=by
 obtain⟨D,h1,h2,h3,h4,h5⟩:=h;rw[h1.len Tryz.underlying107 ty,(Ln h1 h2 h4).2]
theorem Mp.look_ok(h:Mp w b N g){x:Int}(hx:(Lit.int Y x).wf=E):(Instr.lookup 107 (.map (Z b)) (.int Y x) E).run I w=.ok (AH #[if x∈N then g x else Ak K 0 0,.bool (decide (x∈N))]) w:=by
 obtain⟨D,⟨es,clock,hb,F,hs,rfl⟩,h2,h3,h4,h5⟩:=h;rcases Maps.fit_look E iKeyed Tryz.underlying107 (ag w) hb F (YV hx) with⟨CX,CU,GB⟩| ⟨e0,y,uF,hk,CX,tn,GB,_⟩
 . have hn:x ∉ N:=fun hin=>by
    obtain⟨d,hd,ha⟩:=h5 x hin;have e1:=(GB .nil).symm.trans (ha .nil);have e2:=(GB (.lit (.bool E))).symm.trans (ha (.lit (.bool E)));rw[<- e1] at e2;cases e2
   rw[Ax hn,AB hn];exact CX
 . have hn:x∈N:=by
    have:=h4 x;rw[Maps.has_true_of_atKey GB] at this;exact AX this.symm
   rw[Au hn,Az hn];obtain⟨d,hd,ha⟩:=h5 x hn;have e1:y.1=d:=(GB .nil).symm.trans (ha .nil);have:e0.val=g x:=aQ (ps:=y.2) (by rw[tn,<- e1]) hd;rw[<- this];exact CX
theorem Mp.look(h:Mp w b N g){x:Int}(hx:x∈N):(Instr.lookup 107 (.map (Z b)) (.int Y x) H).run I w=.ok (g x) w:=by
 have hw:=h.wf x hx;obtain⟨D,h1,h2,h3,h4,h5⟩:=h;obtain⟨v,ps,CX,hv⟩:=h1.lookup iKeyed Tryz.underlying107 (ag w) n8 (YV hw);obtain⟨d,hd,ha⟩:=h5 x hx;rw[ha] at hv;rw[aQ hd hv];exact CX
theorem Mp.store(h:Mp w b N g){x:Int}(hx:(Lit.int Y x).wf=E){v:C}{d:DataW Unit}(hv:hdr v=Z (d,[]))(hN:N.length<1000000):
 ∃ w',(Instr.mapUpdate 107 (.map (Z b)) (.int Y x) v).run I w=.ok () w'/\Mp w' b (D7 N x) (fun y=>if y=x then v else g y)/\w.grownBy w' (Z b)/\w'.heap.size=w.heap.size:=by
 obtain⟨D,h1,h2,h3,h4,h5⟩:=h;have hlt:N.length<maxLen:=by simp only[maxLen];omega
 have hm:=h1.isMap;have hkl:WideAt.IsKeyLit (.int Y x):=iKeyed.key (YV hx);obtain⟨w',CX,h6,hg,ht⟩:∃ w',(Instr.mapUpdate 107 (.map (Z b)) (.int Y x) v).run I w=.ok () w'/\w'.ownsMap I 3 hdr b (N.length+1) (D.put (.int Y x) d)/\w.grownBy w' (Z b)/\w'.heap.size=w.heap.size:=by
  obtain⟨w',CX,h6,h7⟩:=h1.store iKeyed Tryz.underlying107 hlt (YV hx) hv;exact⟨w',CX,h6,h7.grown,by obtain⟨_,_,_,_,_,rfl⟩:=h7;simp[ChangeMaps.setBlock]⟩
 refine⟨w',CX,aw h6 ?_ ?_ ?_ ?_,hg,ht⟩
 . unfold D7
   split
   . exact h2
   . rename_i hn
     exact List.nodup_append.2 ⟨h2,by simp,fun a ha c hc e=>hn (by simp at hc;rw[<- hc,<- e];exact ha)⟩
 . intro y hy
   unfold D7 at hy;split at hy
   . exact h3 y hy
   . rcases BI.1 hy with hy|hy
     . exact h3 y hy
     . simp at hy;subst hy;exact hx
 . intro y
   have hmem:y∈D7 N x ↔ y∈N\/y=x:=by
    unfold D7;split
    . exact⟨AU,fun h=>h.elim id fun e=>by rw[e];assumption⟩
    . simp
   by_cases e:y=x
   . subst e
     rw[Maps.has_put_same hm hkl,Az (hmem.2 (AW rfl))]
   . rw[Maps.has_put_other (fun e'=>e (by cases e';rfl)),h4 y]
     exact decide_eq_decide.2 ⟨fun h=>hmem.2 (AU h),fun h=>(hmem.1 h).resolve_right e⟩
 . intro y hy
   by_cases e:y=x
   . subst e
     exact⟨d,by rw[Au rfl];exact hv,fun z=>Maps.atKey_put_same hm hkl d z⟩
   . have hy':y∈N:=by
      unfold D7 at hy;split at hy
      . exact hy
      . exact(BI.1 hy).resolve_right fun h=>e (by simpa using h)
     obtain⟨d',hd',ha'⟩:=h5 y hy';exact⟨d',by rw[Ax e];exact hd',fun z=>by rw[Maps.atKey_put_other (fun e'=>e (by cases e';rfl))];exact ha' z⟩
end
end
section
open Go.RowKit Go.Shelf
def c7:Go.Shelf.Ren:=⟨fun|5=>87|n=>n,fun|23=>107|24=>107|26=>3|27=>77|0=>0|4=>4|n=>n,fun|n=>n⟩
theorem tK:Go.Proofs.SlLaysX.n5 I c7:={
 mixed:=by kernel_rfl,
 f5:=⟨Tryz.f87.name,by decide,Tryz.func87.trans (Bt Z (by kernel_rfl))⟩,
 t0:=Tryz.underlying0,
 a0:=Tryz.isAgg0,
 z0:=Tryz.sizeOf0,
 v0:=Tryz.zeroValue0,
 t4:=Tryz.underlying4,
 a4:=Tryz.isAgg4,
 z4:=Tryz.sizeOf4,
 v4:=Tryz.zeroValue4,
 t23:=Tryz.underlying107,
 a23:=Tryz.isAgg107,
 z23:=Tryz.sizeOf107,
 v23:=Tryz.zeroValue107,
 t24:=Tryz.underlying107,
 a24:=Tryz.isAgg107,
 z24:=Tryz.sizeOf107,
 v24:=Tryz.zeroValue107,
 a26:=Tryz.isAgg3,
 z26:=Tryz.sizeOf3,
 a27:=Tryz.isAgg77,
 z27:=Tryz.sizeOf77 }
def R6:Go.Shelf.Ren:=⟨fun|7=>171|10=>199|n=>n,fun|23=>107|26=>3|3=>77|28=>263|0=>0|27=>259|33=>180|4=>4|n=>n,fun|n=>n⟩
theorem qf:Go.Proofs.SlLaysZI.n7 I R6:={
 mixed:=by kernel_rfl,
 f7:=⟨Tryz.f171.name,by decide,Tryz.func171.trans (Bt Z (by kernel_rfl))⟩,
 f10:=⟨Tryz.f199.name,by decide,Tryz.func199.trans (Bt Z (by kernel_rfl))⟩,
 t0:=Tryz.underlying0,
 a0:=Tryz.isAgg0,
 z0:=Tryz.sizeOf0,
 v0:=Tryz.zeroValue0,
 t4:=Tryz.underlying4,
 a4:=Tryz.isAgg4,
 z4:=Tryz.sizeOf4,
 v4:=Tryz.zeroValue4,
 t23:=Tryz.underlying107,
 a23:=Tryz.isAgg107,
 z23:=Tryz.sizeOf107,
 v23:=Tryz.zeroValue107,
 t26:=Tryz.underlying3,
 a26:=Tryz.isAgg3,
 z26:=Tryz.sizeOf3,
 v26:=Tryz.zeroValue3,
 t27:=Tryz.underlying259,
 a27:=Tryz.isAgg259,
 z27:=Tryz.sizeOf259,
 v27:=Tryz.zeroValue259,
 t28:=Tryz.underlying263,
 a28:=Tryz.isAgg263,
 z28:=Tryz.sizeOf263,
 v28:=Tryz.zeroValue263,
 t33:=Tryz.underlying180,
 a33:=Tryz.isAgg180,
 z33:=Tryz.sizeOf180,
 v33:=Tryz.zeroValue180 }
def NZ:Go.Shelf.Ren:=⟨fun|6=>170|8=>197|9=>198|11=>210|13=>212|12=>211|23=>232|24=>233|14=>223|15=>224|16=>225|17=>226|18=>227|19=>228|20=>229|21=>230|22=>231|25=>247|26=>248|27=>249|28=>250|29=>251|30=>252|31=>264|n=>n,fun|26=>3|28=>263|24=>179|0=>0|3=>3|37=>55|48=>105|50=>203|4=>4|40=>315|39=>314|45=>175|5=>5|9=>9|51=>329|55=>227|57=>339|58=>131|33=>180|n=>n,fun|n=>n⟩
theorem ng:Go.Proofs.SlLaysZI.n6 I NZ:={
 mixed:=by kernel_rfl,
 f6:=⟨Tryz.f170.name,by decide,Tryz.func170.trans (Bt Z (by kernel_rfl))⟩,
 f8:=⟨Tryz.f197.name,by decide,Tryz.func197.trans (Bt Z (by kernel_rfl))⟩,
 f11:=⟨Tryz.f210.name,by decide,Tryz.func210.trans (Bt Z (by kernel_rfl))⟩,
 t0:=Tryz.underlying0,
 a0:=Tryz.isAgg0,
 z0:=Tryz.sizeOf0,
 v0:=Tryz.zeroValue0,
 t24:=Tryz.underlying179,
 a24:=Tryz.isAgg179,
 z24:=Tryz.sizeOf179,
 v24:=Tryz.zeroValue179,
 t26:=Tryz.underlying3,
 a26:=Tryz.isAgg3,
 z26:=Tryz.sizeOf3,
 v26:=Tryz.zeroValue3,
 t28:=Tryz.underlying263,
 a28:=Tryz.isAgg263,
 z28:=Tryz.sizeOf263,
 v28:=Tryz.zeroValue263,
 i26:=by kernel_rfl }
def cK:Go.Shelf.Ren:=⟨fun|5=>198|8=>212|7=>211|19=>232|20=>233|10=>223|11=>224|12=>225|13=>226|14=>227|15=>228|16=>229|17=>230|18=>231|30=>247|31=>248|32=>249|33=>250|34=>251|35=>252|40=>264|n=>n,fun|23=>179|25=>3|3=>3|32=>55|22=>179|0=>0|44=>105|46=>203|4=>4|36=>315|35=>314|41=>175|5=>5|9=>9|53=>329|57=>227|63=>339|64=>131|n=>n,fun|n=>n⟩
theorem qd:Go.Proofs.SlLaysM.n5 I cK:={
 mixed:=by kernel_rfl,
 f5:=⟨Tryz.f198.name,by decide,Tryz.func198.trans (Bt Z (by kernel_rfl))⟩,
 f7:=⟨Tryz.f211.name,by decide,Tryz.func211.trans (Bt Z (by kernel_rfl))⟩,
 f8:=Tryz.func212.trans (Bt Z (by kernel_rfl)),
 f10:=⟨Tryz.f223.name,by decide,Tryz.func223.trans (Bt Z (by kernel_rfl))⟩,
 f11:=⟨Tryz.f224.name,by decide,Tryz.func224.trans (Bt Z (by kernel_rfl))⟩,
 f12:=⟨Tryz.f225.name,by decide,Tryz.func225.trans (Bt Z (by kernel_rfl))⟩,
 f13:=⟨Tryz.f226.name,by decide,Tryz.func226.trans (Bt Z (by kernel_rfl))⟩,
 f14:=⟨Tryz.f227.name,by decide,Tryz.func227.trans (Bt Z (by kernel_rfl))⟩,
 f15:=⟨Tryz.f228.name,by decide,Tryz.func228.trans (Bt Z (by kernel_rfl))⟩,
 f16:=⟨Tryz.f229.name,by decide,Tryz.func229.trans (Bt Z (by kernel_rfl))⟩,
 f17:=⟨Tryz.f230.name,by decide,Tryz.func230.trans (Bt Z (by kernel_rfl))⟩,
 f18:=⟨Tryz.f231.name,by decide,Tryz.func231.trans (Bt Z (by kernel_rfl))⟩,
 f19:=Tryz.func232.trans (Bt Z (by kernel_rfl)),
 f20:=Tryz.func233.trans (Bt Z (by kernel_rfl)),
 f30:=⟨Tryz.f247.name,by decide,Tryz.func247.trans (Bt Z (by kernel_rfl))⟩,
 f31:=Tryz.func248.trans (Bt Z (by kernel_rfl)),
 f32:=Tryz.func249.trans (Bt Z (by kernel_rfl)),
 f33:=⟨Tryz.f250.name,by decide,Tryz.func250.trans (Bt Z (by kernel_rfl))⟩,
 f34:=⟨Tryz.f251.name,by decide,Tryz.func251.trans (Bt Z (by kernel_rfl))⟩,
 f35:=⟨Tryz.f252.name,by decide,Tryz.func252.trans (Bt Z (by kernel_rfl))⟩,
 f40:=⟨Tryz.f264.name,by decide,Tryz.func264.trans (Bt Z (by kernel_rfl))⟩,
 t0:=Tryz.underlying0,
 a0:=Tryz.isAgg0,
 z0:=Tryz.sizeOf0,
 v0:=Tryz.zeroValue0,
 t3:=Tryz.underlying3,
 a3:=Tryz.isAgg3,
 z3:=Tryz.sizeOf3,
 v3:=Tryz.zeroValue3,
 t4:=Tryz.underlying4,
 a4:=Tryz.isAgg4,
 z4:=Tryz.sizeOf4,
 v4:=Tryz.zeroValue4,
 t5:=Tryz.underlying5,
 a5:=Tryz.isAgg5,
 z5:=Tryz.sizeOf5,
 v5:=Tryz.zeroValue5,
 t9:=Tryz.underlying9,
 a9:=Tryz.isAgg9,
 z9:=Tryz.sizeOf9,
 v9:=Tryz.zeroValue9,
 t22:=Tryz.underlying179,
 a22:=Tryz.isAgg179,
 z22:=Tryz.sizeOf179,
 v22:=Tryz.zeroValue179,
 t23:=Tryz.underlying179,
 a23:=Tryz.isAgg179,
 z23:=Tryz.sizeOf179,
 v23:=Tryz.zeroValue179,
 t25:=Tryz.underlying3,
 a25:=Tryz.isAgg3,
 z25:=Tryz.sizeOf3,
 v25:=Tryz.zeroValue3,
 t32:=Tryz.underlying55,
 a32:=Tryz.isAgg55,
 z32:=Tryz.sizeOf55,
 v32:=Tryz.zeroValue55,
 t35:=Tryz.underlying314,
 a35:=Tryz.isAgg314,
 z35:=Tryz.sizeOf314,
 v35:=Tryz.zeroValue314,
 t36:=Tryz.underlying315,
 a36:=Tryz.isAgg315,
 z36:=Tryz.sizeOf315,
 v36:=Tryz.zeroValue315,
 t41:=Tryz.underlying175,
 a41:=Tryz.isAgg175,
 z41:=Tryz.sizeOf175,
 v41:=Tryz.zeroValue175,
 t44:=Tryz.underlying105,
 a44:=Tryz.isAgg105,
 z44:=Tryz.sizeOf105,
 v44:=Tryz.zeroValue105,
 t46:=Tryz.underlying203,
 a46:=Tryz.isAgg203,
 z46:=Tryz.sizeOf203,
 v46:=Tryz.zeroValue203,
 t53:=Tryz.underlying329,
 a53:=Tryz.isAgg329,
 z53:=Tryz.sizeOf329,
 v53:=Tryz.zeroValue329,
 t57:=Tryz.underlying227,
 a57:=Tryz.isAgg227,
 z57:=Tryz.sizeOf227,
 v57:=Tryz.zeroValue227,
 t63:=Tryz.underlying339,
 a63:=Tryz.isAgg339,
 z63:=Tryz.sizeOf339,
 v63:=Tryz.zeroValue339,
 t64:=Tryz.underlying131,
 a64:=Tryz.isAgg131,
 z64:=Tryz.sizeOf131,
 v64:=Tryz.zeroValue131 }
end
section
open Go.RowKit Go.Maps Go.Shelf
def EU(N M:List Int):List Int:=N ++ M.filter fun x=>decide (x ∉ N)
theorem mem_uniN{N M:List Int}{x:Int}:x∈EU N M ↔ x∈N\/x∈M:=by
 unfold EU;rw[BI,List.mem_filter,A4];by_cases h:x∈N
 . simp[h]
 . simp[h]
theorem Xr{N M:List Int}(h:N.Nodup)(k:M.Nodup):(EU N M).Nodup:=by
 refine List.nodup_append.2 ⟨h,k.filter _,fun a ha c hc e=>?_⟩;have:=(List.mem_filter.1 hc).2;rw[A4] at this;exact this (e ▸ ha)
def BJ(N:List Int):List Int:=N.mergeSort leI
theorem LS(N:List Int):(BJ N).Perm N:=List.mergeSort_perm N leI
theorem G9(N:List Int):(BJ N).length=N.length:=(LS N).length_eq
theorem mem_sortN{N:List Int}{x:Int}:x∈BJ N ↔ x∈N:=(LS N).mem_iff
theorem VE{N:List Int}(h:N.Nodup):(BJ N).Nodup:=(LS N).nodup_iff.2 h
theorem ks{w:V}{bd bs:Nat}{N M:List Int}{g h:Int->C}(hd:Mp w bd N g)(hs:Mp w bs M h)(hne:bd≠bs)(hroom:N.length+M.length<=1000000):
 A I 87 #[.map (Z bd),.map (Z bs)] w fun e w'=>e=f (AH #[])/\Mp w' bd (EU N M) (fun x=>if x∈M then h x else g x)/\Mp w' bs M h/\w.grownBy w' (Z bd):=by
 obtain⟨Dd,d1,d2,d3,d4,d5⟩:=hd;obtain⟨Ds,s1,s2,s3,s4,s5⟩:=hs;have Ed:=(Ln s1 s2 s4).2;have hcon:=AnyX.maps_Copy tK iKeyed hdr bd bs N.length M.length Dd Ds w d1 s1 hne (by rw[Ed];simp only[maxLen];omega);change A I 87 _ _ _ at hcon;refine hcon.mono ?_;rintro e w' ⟨he,h1,h2,h3⟩;refine⟨he,?_,⟨Ds,h2,s2,s3,s4,s5⟩,h3⟩;obtain⟨es,rfl,hp,hk⟩:=s1.entries iKeyed;have hm:=d1.isMap;have hhas:∀ k,Maps.has (Lib.mergeD Dd (.map es)) k=(Maps.has Dd k || Maps.has (.map es) k):=fun k=>Maps.has_foldPut k es Dd hm hk
 refine aw h1 (Xr d2 s2) ?_ ?_ ?_
 . intro x hx
   exact(mem_uniN.1 hx).elim (d3 x) (s3 x)
 . intro x
   rw[hhas,d4 x,s4 x];by_cases ha:x∈N
   . rw[Az ha,Az (mem_uniN.2 (AU ha))];rfl
   . by_cases hb:x∈M
     . rw[Az hb,Az (mem_uniN.2 (AW hb)),Bool.or_true]
     . rw[AB ha,AB hb,AB (fun e=>(mem_uniN.1 e).elim ha hb)];rfl
 . intro x hx
   by_cases hb:x∈M
   . obtain⟨d,hd,ha⟩:=s5 x hb
     refine⟨d,by rw[Au hb];exact hd,fun z=>?_⟩;have GB:=Maps.atKey_foldPut (.int Y x) z es Dd hm hk hp;have h0:(DataW.map es).atKey (.int Y x) z=d:=ha z;show(es.foldl (fun D p=>D.put p.1 p.2) Dd).atKey (.int Y x) z=d
     cases hf:es.find? (fun p=>p.1.sameKey (.int Y x)) with
     |none=>
      have hh:=s4 x;rw[Az hb,Maps.has_eq,List.any_eq_true] at hh;obtain⟨p,hp1,mn⟩:=hh;have:=List.find?_eq_none.1 hf p hp1;rw[mn] at this;exact absurd rfl this
     |some p=>
      rw[hf] at GB;simp only[DataW.atKey,hf] at h0;rw[GB];exact h0
   . have ha:=(mem_uniN.1 hx).resolve_right hb
     obtain⟨d,hd,hz⟩:=d5 x ha;refine⟨d,by rw[Ax hb];exact hd,fun z=>?_⟩;have GB:=Maps.atKey_foldPut (.int Y x) z es Dd hm hk hp;show(es.foldl (fun D p=>D.put p.1 p.2) Dd).atKey (.int Y x) z=d
     have hf:es.find? (fun p=>p.1.sameKey (.int Y x))=K:=List.find?_eq_none.2 fun p hp1 mn=>by
      have hh:=s4 x;rw[AB hb,Maps.has_eq] at hh;have:=List.any_eq_false.1 hh p hp1;exact this mn
     rw[hf] at GB;rw[GB];exact hz z
theorem lD(b:Nat)(w:V):A I 171 #[.map (Z b)] w fun e w'=>e=f (.func (.func 199) #[] #[Al (Z ⟨w.heap.size,0,K⟩)])/\w'=w.alloc (Am #[.map (Z b)] 107):=by
 have h:=(Di (n:=5)).1 (AnyZI.keys_in qf Fence.wide 5 trivial rfl (Z b) w);exact h
theorem rO(m:Nat):AnyZI.SortsIn I NZ Fence.wide m:=
 ⟨fun blk off cap ss W hH hblk Ed=>Di.2 (AnyM.slices_Sort_int qd blk off cap ss W hH hblk Ed),
  fun p cap W=>Di.2 (AnyM.slices_Sort_int_none qd p cap W)⟩
theorem Vq{w:V}{b p:Nat}{N:List Int}{g:Int->C}(h:Mp w b N g)(hp:w.heap[p]? =Z (Am #[.map (Z b)] 107 (0,0)))(hN:N.length<=1000000):
 A I 170 #[.func (.func 199) #[] #[Al (Z ⟨p,0,K⟩)]] w fun e w'=>∃ v,e=f v/\IR w' w.heap.size v (BJ N)/\Ap w.heap.size w w':=by
 obtain⟨D,d1,d2,d3,d4,d5⟩:=h;obtain⟨hperm,Ed⟩:=Ln d1 d2 d4;have hpl:p<w.heap.size:=(Ah.1 hp).1;have hc:w.cell? ⟨p,0,K⟩=Z (.map (Z b)):=by rw[Aq _ _ _ _ _ _ hp];rfl
 have hseq:SeqGives Fence.wide 2 I 199 #[Al (Z ⟨p,0,K⟩)] encZ (fun ss=>ss.Perm (intKeys D)) (Maps.size D) w:=
  AnyZI.keys_gives (ρ:=R6) { qf with } Fence.wide _ trivial rfl (by omega) p b N.length D w hpl hc d1
 have cS:=AnyZI.sorted_in ng Fence.wide 5 trivial trivial trivial trivial rfl (by omega) (rO _) (enters_of Tryz.func198 (by kernel_rfl) rfl) 199 #[Al (Z ⟨p,0,K⟩)] trivial (enters_of Tryz.func199 (by kernel_rfl) rfl) _ _ (by rw[Ed];simp only[maxLen];omega) (by rw[Ed];omega) w hseq;change CallsIn _ _ I 170 _ _ _ at cS;refine(Di.1 cS).mono ?_;rintro e w' ⟨v,ss,he,hS,hrow,hnil,hb⟩;have e1:ss.mergeSort (fun x y=>decide (x<=y))=BJ N:=mergeSort_of_perm_i (hS.trans hperm.symm);have e2:ss.length=(BJ N).length:=by rw[G9,hS.length_eq,hperm.length_eq]
 rw[e1,e2] at hrow;refine⟨v,he,?_,hb⟩;exact hrow
end
section
open Go.RowKit
structure Ext (P:Nat->Prop) (w w':V):Prop where
 os:w'.os=w.os
 tape:w'.tape=w.tape
 output:w'.output=w.output
 size:w.heap.size<=w'.heap.size
 keep:∀ k,k<w.heap.size->¬ P k->w'.heap[k]? =w.heap[k]?
def wg(P:Nat->Prop)(w w':V)(k:Nat):Prop:=P k\/(w.heap.size<=k/\k<w'.heap.size)
theorem Ext.trans{P P2:Nat->Prop}{a b c:V}(h:Ext P a b)(k:Ext P2 b c)(hp:∀ x,x<a.heap.size->P2 x->P x):Ext P a c:=
 ⟨k.os.trans h.os,k.tape.trans h.tape,k.output.trans h.output,AI h.size k.size,fun i hi hn=>(k.keep i (AA hi h.size) fun e=>hn (hp i hi e)).trans (h.keep i hi hn)⟩
theorem Ext.of_below{P:Nat->Prop}{w w':V}(h:Ap w.heap.size w w'):Ext P w w':=⟨h.os,h.tape,h.output,h.size,fun k hk _=>h.block k hk⟩
theorem Ext.of_chg{P Q Q':Nat->Prop}{w w':V}(h:Chg Q Q' w w')(hp:∀ x,Q x->P x):Ext P w w':=⟨h.os,h.tape,h.output,h.size,fun k hk hn=>(h.keep k hk fun e=>hn (hp k e)).1⟩
theorem Ext.of_grown{P:Nat->Prop}{w w':V}{b:Nat}(h:w.grownBy w' (Z b))(hp:P b):Ext P w w':=⟨h.os,h.tape,h.output,h.size,fun k hk hn=>h.block k hk fun e=>hn (by cases e;exact hp)⟩
theorem Ext.of_wrote{P:Nat->Prop}{w w':V}{b:Nat}(h:Wrote w w' b)(hp:P b):Ext P w w':=⟨h.1,h.2.1,h.2.2.1,DU h.2.2.2.1.symm,fun k _ hn=>h.2.2.2.2 k fun e=>hn (e ▸ hp)⟩
theorem Ext.chg{P:Nat->Prop}{w w':V}(h:Ext P w w'):Chg P (wg P w w') w w':=⟨h.os,h.tape,h.output,h.size,fun k hk hn=>⟨h.keep k hk hn,fun e=>e.elim hn fun e=>absurd e.1 (by omega)⟩⟩
theorem Ext.sub{P Q:Nat->Prop}{w w':V}(h:Ext P w w')(hp:∀ x,P x->Q x):Ext Q w w':=⟨h.os,h.tape,h.output,h.size,fun k hk hn=>h.keep k hk fun e=>hn (hp k e)⟩
theorem Mv{P P':Nat->Prop}{w w':V}(h:Chg P P' w w'){k:Nat}(hk:P' k):P k\/w.heap.size<=k:=by
 by_cases hl:k<w.heap.size
 . by_cases hp:P k
   . exact AU hp
   . exact absurd hk (h.keep k hl hp).2
 . exact AW (by omega)
theorem Dk.same{w w':V}{P:Nat->Prop}{p:C}{s:DS}(h:Dk w P p s)(hk:∀ k,P k->w'.heap[k]? =w.heap[k]?):Dk w' P p s:=by
 obtain⟨bp,bf,bv,u,hp,hd,hl,hP⟩:=h;refine⟨bp,bf,bv,u,hp,{ hd with hp:=?_,hf:=?_,hv:=?_,hu:=Fs hd.hu fun g hg=>hk g ((hP g).2 (AW (AW (AW hg)))) },hl,hP⟩
 . rw[hk _ ((hP _).2 (AU rfl))];exact hd.hp
 . rw[hk _ ((hP _).2 (AW (AU rfl)))];exact hd.hf
 . rw[hk _ ((hP _).2 (AW (AW (AU rfl))))];exact hd.hv
def Blo(w:V)(v:C)(l:List Int):Prop:=OB w 0 v l/\l.length=256
theorem Blo.row{w:V}{v:C}{l:List Int}(h:Blo w v l):∃ g cap cur,v=Ak (Z ⟨g,0,K⟩) 256 cap/\w.heap[g]? =Z (Am cur 5 (0,0)):=by
 rcases h.1.2.2 with⟨_,h0⟩| ⟨g,cap,cur,hv,_,hh,_⟩
 . rw[h.2] at h0;cases h0
 . exact⟨g,cap,cur,by rw[hv,h.2],hh⟩
theorem Blo.hdr{w:V}{v:C}{l:List Int}(h:Blo w v l):∃ d,hdr v=Z (d,[]):=by
 obtain⟨g,cap,cur,rfl,_⟩:=h.row;exact⟨_,jO g 0 256 cap⟩
theorem Blo.keep{w w':V}{v:C}{l:List Int}(h:Blo w v l)(hk:∀ g,v.ownBlock=Z g->w'.heap[g]? =w.heap[g]?):Blo w' v l:=⟨⟨h.1.1,Fs h.1.2 hk⟩,h.2⟩
theorem Blo.lt{w:V}{v:C}{l:List Int}(h:Blo w v l){g:Nat}(hg:v.ownBlock=Z g):g<w.heap.size:=(BO h.1.2 g hg).2
theorem Blo.at{w:V}{v:C}{l:List Int}(h:Blo w v l){g:Nat}(hg:v.ownBlock=Z g):∃ cur,w.heap[g]? =Z (Am cur 5 (0,0)):=by
 obtain⟨g',cap,cur,rfl,hh⟩:=h.row;obtain rfl:g'=g:=by simpa [C.ownBlock] using hg
 exact⟨cur,hh⟩
def o7(Pd:Nat->Prop)(b be bp:Nat)(ek:List Int)(eg:Int->C)(pk:List Int)(pg:Int->C)(k:Nat):Prop:=
 Pd k\/k=b\/k=be\/k=bp\/(∃ x,x∈ek/\(eg x).ownBlock=Z k)\/∃ x,x∈pk/\(pg x).ownBlock=Z k
structure SMem (w:V) (Pd:Nat->Prop) (b be bp:Nat) (d:C) (q:Int) (ek:List Int) (eg:Int->C) (ev:Int->List Int) (pk:List Int) (pg:Int->C) (pv:Int->List Int) (wi:Bool) (ds:DS):Prop where
 hb:w.heap[b]? =Z (Am #[d,J .u32 q,.map (Z be),.map (Z bp),AP wi,AP H] 109 (0,0))
 dk:Dk w Pd d ds
 q0:0<=q/\q<4294967296
 me:Mp w be ek eg
 mp:Mp w bp pk pg
 ne:be≠bp
 re:∀ x∈ek,Blo w (eg x) (ev x)
 rp:∀ x∈pk,Blo w (pg x) (pv x)
def ta(n:Nat)(x:Int):Prop:=0<=x/\x<n/\D6 x.toNat
structure SPl (X:XSt) (ek:List Int) (ev:Int->List Int) (pk:List Int) (pv:Int->List Int):Prop where
 ok:XOk X
 n64:64<=X.is.length/\X.is.length<=768
 u0:X.ds.U=[]
 ki:∀ x∈ek,ta X.is.length x
 kp:∀ x∈pk,ta X.is.length x
 el:ek.length<=37
 pl:pk.length<=37
 dt:X.dt=ek.length
 isx:∀ i,D6 i->i<X.is.length->X.is.getD i []=if (i:Int)∈ek then ev i else X.base.getD i []
 wi0:X.wi=H->pk=[]
 wi1:X.wi=E->X.put=pk/\X.call.length=X.is.length/\∀ i,D6 i->i<X.is.length->X.call.getD i []=if (i:Int)∈pk then pv i else X.is.getD i []
def SInv(w:V)(P:Nat->Prop)(d p:C)(X:XSt):Prop:=
 ∃ b be bp Pd q ek eg ev pk pg pv,p=Al (Z ⟨b,0,K⟩)/\SMem w Pd b be bp d q ek eg ev pk pg pv X.wi X.ds/\SPl X ek ev pk pv/\(∀ k,o7 Pd b be bp ek eg pk pg k->P k)/\∀ k,P k->k<w.heap.size
def SDead(w:V)(P:Nat->Prop)(d p:C)(ds:DS):Prop:=
 ∃ b Pd,p=Al (Z ⟨b,0,K⟩)/\w.heap[b]? =Z (Am #[Al K,J .u32 0,.map K,.map K,AP H,AP E] 109 (0,0))/\Dk w Pd d ds/\(∀ k,Pd k\/k=b->P k)/\∀ k,P k->k<w.heap.size
section
variable {w:V}{Pd:Nat->Prop}{b be bp:Nat}{d:C}{q:Int}{ek:List Int}{eg:Int->C}{ev:Int->List Int}{pk:List Int}{pg:Int->C}{pv:Int->List Int}{wi:Bool}{ds:DS}
theorem SMem.bl(h:SMem w Pd b be bp d q ek eg ev pk pg pv wi ds):b<w.heap.size:=(Ah.1 h.hb).1
theorem SMem.lt(h:SMem w Pd b be bp d q ek eg ev pk pg pv wi ds)(k:Nat)(hk:o7 Pd b be bp ek eg pk pg k):k<w.heap.size:=by
 rcases hk with hk|rfl|rfl|rfl| ⟨x,hx,hg⟩| ⟨x,hx,hg⟩
 . exact h.dk.lt k hk
 . exact h.bl
 . exact h.me.lt
 . exact h.mp.lt
 . exact(h.re x hx).lt hg
 . exact(h.rp x hx).lt hg
theorem SMem.same(h:SMem w Pd b be bp d q ek eg ev pk pg pv wi ds){w':V}(hk:∀ k,o7 Pd b be bp ek eg pk pg k->w'.heap[k]? =w.heap[k]?):SMem w' Pd b be bp d q ek eg ev pk pg pv wi ds:=
 ⟨by rw[hk b (AW (AU rfl))];exact h.hb,h.dk.same fun k hp=>hk k (AU hp),h.q0,h.me.keep (hk be (AW (AW (AU rfl)))),h.mp.keep (hk bp (AW (AW (AW (AU rfl))))),h.ne,
   fun x hx=>(h.re x hx).keep fun g hg=>hk g (AW (AW (AW (AW (AU ⟨x,hx,hg⟩))))),fun x hx=>(h.rp x hx).keep fun g hg=>hk g (AW (AW (AW (AW (AW ⟨x,hx,hg⟩)))))⟩
theorem SMem.below(h:SMem w Pd b be bp d q ek eg ev pk pg pv wi ds){w':V}(hb:Ap w.heap.size w w'):SMem w' Pd b be bp d q ek eg ev pk pg pv wi ds:=h.same fun k hk=>hb.block k (h.lt k hk)
theorem SMem.ci(h:SMem w Pd b be bp d q ek eg ev pk pg pv wi ds)(i:Nat):w.cell? ⟨b,i,K⟩=(#[d,J .u32 q,.map (Z be),.map (Z bp),AP wi,AP H]:Array C)[i]? :=Aq _ _ _ _ _ _ h.hb
theorem SMem.fr(h:SMem w Pd b be bp d q ek eg ev pk pg pv wi ds)(i:Nat):w.frozen? ⟨b,i,K⟩=H:=by simp[V.frozen?,h.hb]
theorem SMem.c0(h:SMem w Pd b be bp d q ek eg ev pk pg pv wi ds):w.cell? ⟨b,0,K⟩=Z d:=h.ci 0
theorem SMem.c1(h:SMem w Pd b be bp d q ek eg ev pk pg pv wi ds):w.cell? ⟨b,1,K⟩=Z (J .u32 q):=h.ci 1
theorem SMem.c2(h:SMem w Pd b be bp d q ek eg ev pk pg pv wi ds):w.cell? ⟨b,2,K⟩=Z (.map (Z be)):=h.ci 2
theorem SMem.c3(h:SMem w Pd b be bp d q ek eg ev pk pg pv wi ds):w.cell? ⟨b,3,K⟩=Z (.map (Z bp)):=h.ci 3
theorem SMem.c4(h:SMem w Pd b be bp d q ek eg ev pk pg pv wi ds):w.cell? ⟨b,4,K⟩=Z (AP wi):=h.ci 4
theorem SMem.c5(h:SMem w Pd b be bp d q ek eg ev pk pg pv wi ds):w.cell? ⟨b,5,K⟩=Z (AP H):=h.ci 5
theorem SMem.nd(h:SMem w Pd b be bp d q ek eg ev pk pg pv wi ds):¬ Pd b:=h.dk.not h.hb (by decide) (by decide) (by decide)
theorem YL{P:Nat->Prop}{p:C}{s:DS}(h:Dk w P p s){k:Nat}{es:Array MapEntry}{cl:Nat}(hk:w.heap[k]? =Z (.map es cl)):¬ P k:=fun hp=>by
 obtain⟨_,_,he,_⟩:=h.types k hp;rw[hk] at he;cases he
theorem Mp.nd{P:Nat->Prop}{p:C}{s:DS}{m:Nat}{N:List Int}{g:Int->C}(h:Dk w P p s)(hm:Mp w m N g):¬ P m:=by
 obtain⟨_,⟨es,cl,hh,_⟩,_⟩:=hm;exact YL h hh
theorem SMem.nb(h:SMem w Pd b be bp d q ek eg ev pk pg pv wi ds):be≠b/\bp≠b:=⟨h.me.not_cells h.hb,h.mp.not_cells h.hb⟩
theorem Blo.ne{v:C}{l:List Int}(hv:Blo w v l){g:Nat}(hg:v.ownBlock=Z g){k:Nat}{cs:Array C}{T:Cg}{z:Nat × Nat}(hk:w.heap[k]? =Z (Am cs T z))(hT:T≠5):g≠k:=fun e=>by
 obtain⟨cur,hh⟩:=hv.at hg;rw[e,hk] at hh
 injection hh with hh
 injection hh with _ e2
 exact hT e2
theorem Blo.nm{v:C}{l:List Int}(hv:Blo w v l){g:Nat}(hg:v.ownBlock=Z g){m:Nat}{N:List Int}{gg:Int->C}(hm:Mp w m N gg):g≠m:=fun e=>by
 obtain⟨cur,hh⟩:=hv.at hg;exact hm.not_cells hh e.symm
theorem Blo.nd{v:C}{l:List Int}(hv:Blo w v l){g:Nat}(hg:v.ownBlock=Z g){P:Nat->Prop}{p:C}{s:DS}(h:Dk w P p s):¬ P g:=by
 obtain⟨cur,hh⟩:=hv.at hg;exact h.not hh (by decide) (by decide) (by decide)
theorem SMem.disk(h:SMem w Pd b be bp d q ek eg ev pk pg pv wi ds){w':V}{Pd':Nat->Prop}{ds':DS}(hd:Dk w' Pd' d ds')(hc:Chg Pd Pd' w w'):SMem w' Pd' b be bp d q ek eg ev pk pg pv wi ds':=
 ⟨by rw[(hc.keep b h.bl h.nd).1];exact h.hb,hd,h.q0,h.me.keep (hc.keep be h.me.lt (Mp.nd h.dk h.me)).1,h.mp.keep (hc.keep bp h.mp.lt (Mp.nd h.dk h.mp)).1,h.ne,
   fun x hx=>(h.re x hx).keep fun g hg=>(hc.keep g ((h.re x hx).lt hg) ((h.re x hx).nd hg h.dk)).1,fun x hx=>(h.rp x hx).keep fun g hg=>(hc.keep g ((h.rp x hx).lt hg) ((h.rp x hx).nd hg h.dk)).1⟩
end
theorem SInv.keep{w w':V}{P:Nat->Prop}{d p:C}{X:XSt}(h:SInv w P d p X)(hs:w.heap.size<=w'.heap.size)(hk:∀ k,P k->w'.heap[k]? =w.heap[k]?):SInv w' P d p X:=by
 obtain⟨b,be,bp,Pd,q,ek,eg,ev,pk,pg,pv,hp,hm,hpl,ho,hl⟩:=h;exact⟨b,be,bp,Pd,q,ek,eg,ev,pk,pg,pv,hp,hm.same fun k h=>hk k (ho k h),hpl,ho,fun k h=>AA (hl k h) hs⟩
theorem SDead.keep{w w':V}{P:Nat->Prop}{d p:C}{ds:DS}(h:SDead w P d p ds)(hs:w.heap.size<=w'.heap.size)(hk:∀ k,P k->w'.heap[k]? =w.heap[k]?):SDead w' P d p ds:=by
 obtain⟨b,Pd,hp,hb,hd,ho,hl⟩:=h;exact⟨b,Pd,hp,by rw[hk b (ho b (AW rfl))];exact hb,hd.same fun k h=>hk k (ho k (AU h)),ho,fun k h=>AA (hl k h) hs⟩
theorem MG(w:V)(n:Int):A I 94 #[.int Y n] w fun e w'=>e=f (.bool (decide (n<768)))/\w=w':=by
 go_enter Tryz.func94,Tryz.ntmps94;go_wp2;go_ret;trivial
section
variable {w:V}{Pd:Nat->Prop}{b be bp:Nat}{d:C}{q:Int}{ek:List Int}{eg:Int->C}{ev:Int->List Int}{pk:List Int}{pg:Int->C}{pv:Int->List Int}{wi:Bool}{ds:DS}
theorem LJ(h:SMem w Pd b be bp d q ek eg ev pk pg pv wi ds):A I 84 #[Al (Z ⟨b,0,K⟩)] w fun e w'=>e=f (.int Y 0)/\w=w':=by
 have c5:=h.c5;clear h;go_enter Tryz.func84,Tryz.ntmps84;go_wp2;go_ret;exact⟨rfl,rfl⟩
theorem Fb(h:SMem w Pd b be bp d q ek eg ev pk pg pv wi ds)(x:Bool):A I 43 #[Al (Z ⟨b,0,K⟩),.bool x] w fun e w'=>e=f (.int Y (if wi=x then 0 else 17))/\w=w':=by
 have KU:=wM (LJ h);have c4:=h.c4;clear h;go_enter Tryz.func43,Tryz.ntmps43;go_wp2_with (go_at_call 84;refine KU.out.mono ?_;rintro e w' ⟨rfl,rfl⟩)
 all_goals (cases wi <;> cases x <;> simp_all <;> go_ret <;> exact⟨rfl,rfl⟩)
theorem OX(h:SMem w Pd b be bp d q ek eg ev pk pg pv wi ds)(n:Int):A I 93 #[Al (Z ⟨b,0,K⟩),.int Y n] w fun e w'=>e=f (.bool (decide (0<=n/\n<ds.F.length)))/\w=w':=by
 have KB:=wM (Tu h.dk);have c0:=h.c0;clear h;by_cases h0:0<=n
 . have e1:decide (0<=n/\n<ds.F.length)=decide (n<ds.F.length):=by simp[h0]
   rw[e1];go_enter Tryz.func93,Tryz.ntmps93;go_wp2_with (go_at_call 134;refine KB.out.mono ?_;rintro e w' ⟨rfl,rfl⟩)
   go_ret;exact⟨rfl,rfl⟩
 . have e1:decide (0<=n/\n<ds.F.length)=H:=by simp[h0]
   rw[e1];go_enter Tryz.func93,Tryz.ntmps93;go_wp2_with (go_at_call 134;refine KB.out.mono ?_;rintro e w' ⟨rfl,rfl⟩)
   go_ret;exact⟨rfl,rfl⟩
theorem U0(h:SMem w Pd b be bp d q ek eg ev pk pg pv wi ds){n:Int}(hn:(Lit.int Y n).wf=E):A I 145 #[Al (Z ⟨b,0,K⟩),.int Y n] w fun e w'=>
 e=f (AH #[if n∈pk then pg n else if n∈ek then eg n else Ak K 0 0,.bool (decide (n∈pk) || decide (n∈ek))])/\w=w':=by
 have c2:=h.c2;have c3:=h.c3;have le:=h.me.look_ok hn;have lp:=h.mp.look_ok hn;clear h;obtain⟨x,hx⟩:=nm ((if n∈ek then eg n else Ak K 0 0));obtain⟨y,hy⟩:=nm ((if n∈pk then pg n else Ak K 0 0));obtain⟨xb,hxb⟩:=nm (decide (n∈ek));rw[<- hx,<- hxb] at le;rw[<- hy] at lp;by_cases hp:n∈pk
 . rw[Au hp] at hy |-
   rw[Az hp] at lp |-
   rw[<- hy];clear hp hx hxb hy le;go_enter Tryz.func145,Tryz.ntmps145;go_wp2;go_ret2;exact⟨rfl,rfl⟩
 . rw[Ax hp]
   rw[AB hp] at lp |-
   rw[<- hx,<- hxb];clear hp hx hxb hy;go_enter Tryz.func145,Tryz.ntmps145;go_wp2;go_ret2;exact⟨rfl,rfl⟩
end
theorem rb:(I.info? 109).map (·.size)=Z 6:=by kernel_rfl
theorem Ow{ops:Array BE}{rest:List BE}{o:BE}{a:Act}{w:V}{Q:Exit->Act->V->Prop}(Du:o.guard=K)(x y:Operand)(ho:o.op=.store 109 x y)
 (g:Nat) (hx:a.eval x=Al (Z ⟨g,0,K⟩)) (c0 c1 c2 c3 c4 c5 d0 d1 d2 d3 d4 d5:C) (hy:a.eval y=BN #[d0,d1,d2,d3,d4,d5]) (h0:d0.oneCell'=E) (h1:d1.oneCell'=E) (h2:d2.oneCell'=E) (h3:d3.oneCell'=E) (h4:d4.oneCell'=E) (h5:d5.oneCell'=E)
 (hg:w.heap[g]? =Z (Am #[c0,c1,c2,c3,c4,c5] 109 (0,0)))
 (h:∀ w',Wrote w w' g->w'.heap[g]? =Z (Am #[d0,d1,d2,d3,d4,d5] 109 (0,0))->Cf I ops Q rest (a.put o.dst undef) w'):Cf I ops Q (o :: rest) a w:=
 C0 Du 109 x y ho g #[d0,d1,d2,d3,d4,d5] hx hy 109 _ hg rb rfl (by simp[h0,h1,h2,h3,h4,h5]) (h _ (Wrote.setRow _ _ _) (CC _ _ _ _ _ _ hg))
theorem mM(p:C)(w:V)(e:Int)(he:e≠2):A I 131 #[p,.int Y e] w fun e' w'=>e'=f (.int Y e)/\w=w':=by
 go_enter Tryz.func131,Tryz.ntmps131;go_wp2;go_ret;exact⟨rfl,rfl⟩
section
variable {w:V}{Pd:Nat->Prop}{b be bp:Nat}{d:C}{q:Int}{ek:List Int}{eg:Int->C}{ev:Int->List Int}{pk:List Int}{pg:Int->C}{pv:Int->List Int}{wi:Bool}{ds:DS}
theorem oP(h:SMem w Pd b be bp d q ek eg ev pk pg pv wi ds):A I 131 #[Al (Z ⟨b,0,K⟩),.int Y 2] w fun e w'=>e=f (.int Y 2)/\Wrote w w' b/\w'.heap[b]? =Z (Am #[Al K,.int .u32 0,.map K,.map K,.bool H,.bool E] 109 (0,0)):=by
 have hb:=h.hb;clear h;go_enter Tryz.func131,Tryz.ntmps131;go_wp2_with (refine Ow rfl _ _ (by rfl) b (by rfl) _ _ _ _ _ _ _ _ _ _ _ _ (by rfl) rfl rfl rfl rfl rfl rfl hb ?_;intro w2 hw2 hb2)
 go_ret;exact⟨rfl,hw2,hb2⟩
end
theorem SMem.setwi{w w':V}{Pd:Nat->Prop}{b be bp:Nat}{d:C}{q:Int}{ek:List Int}{eg:Int->C}{ev:Int->List Int}{pk:List Int}{pg:Int->C}{pv:Int->List Int}{wi wi':Bool}{ds:DS}(h:SMem w Pd b be bp d q ek eg ev pk pg pv wi ds)
 (hw:Wrote w w' b) (hb:w'.heap[b]? =Z (Am #[d,.int .u32 q,.map (Z be),.map (Z bp),.bool wi',.bool H] 109 (0,0))):SMem w' Pd b be bp d q ek eg ev pk pg pv wi' ds:=
 ⟨hb,h.dk.same fun k hk=>hw.2.2.2.2 k fun e=>h.nd (e ▸ hk),h.q0,h.me.keep (hw.2.2.2.2 be h.nb.1),h.mp.keep (hw.2.2.2.2 bp h.nb.2),h.ne,
   fun x hx=>(h.re x hx).keep fun g hg=>hw.2.2.2.2 g ((h.re x hx).ne hg h.hb (by decide)),fun x hx=>(h.rp x hx).keep fun g hg=>hw.2.2.2.2 g ((h.rp x hx).ne hg h.hb (by decide))⟩
theorem Ty{w:V}{b:Nat}{c0 c1 c2 c3 c4 c5:C}{T:Cg}(h:w.heap[b]? =Z (Am #[c0,c1,c2,c3,c4,c5] T (0,0)))(x:C):(w.setCell ⟨b,4,K⟩ x).heap[b]? =Z (Am #[c0,c1,c2,c3,x,c5] T (0,0)):=by
 rw[A8 w b 4 _ _ x h];rfl
section
variable {w:V}{P:Nat->Prop}{d p:C}{X:XSt}
theorem cD(h:SInv w P d p X):A I 22 #[p] w (OK SInv w P d p (PO X)):=by
 obtain⟨b,be,bp,Pd,q,ek,eg,ev,pk,pg,pv,rfl,hm,hpl,ho,hl⟩:=h;unfold PO OK;cases hw:X.wi
 . have KA:=wM (Fb hm H)
   rw[hw] at KA;have HB:=wM hm.hb;have c4:=hm.c4;have f4:=hm.fr 4;rw[hw] at c4;refine A.mono (R:=fun e w'=>e=f (.int Y 0)/\w'=w.setCell ⟨b,4,K⟩ (.bool E)) ?_ ?_
   . clear hm hpl ho hl hw HB
     go_enter Tryz.func22,Tryz.ntmps22;go_wp2_with (go_at_call 43;refine KA.out.mono ?_;rintro e w' ⟨rfl,rfl⟩)
     go_ret;exact⟨rfl,rfl⟩
   . rintro e w' ⟨rfl,rfl⟩
     have hwr:=Wrote.setCell w b 4 (.bool E);have hm':=hm.setwi (wi':=E) hwr (Ty HB.out _);refine⟨rfl,P,⟨b,be,bp,Pd,q,ek,eg,ev,pk,pg,pv,rfl,hm',?_,ho,fun k hk=>by rw[hwr.2.2.2.1];exact hl k hk⟩,?_⟩
     . have hp0:=hpl.wi0 hw
       refine { hpl with ok:={ hpl.ok with call:=fun _=>rfl },wi0:=fun e=>(by cases e),wi1:=fun _=>⟨hp0.symm,rfl,fun i _ _=>?_⟩ };rw[hp0,Ax Bi];rfl
     . exact⟨hwr.1,hwr.2.1,hwr.2.2.1,DU hwr.2.2.2.1.symm,fun k _ hn=>⟨hwr.2.2.2.2 k fun e=>hn (e ▸ ho b (AW (AU rfl))),hn⟩⟩
 . have KA:=wM (Fb hm H)
   rw[hw] at KA;refine A.mono (R:=fun e w'=>e=f (.int Y 17)/\w=w') ?_ ?_
   . clear hm hpl ho hl hw
     go_enter Tryz.func22,Tryz.ntmps22;go_wp2_with (go_at_call 43;refine KA.out.mono ?_;rintro e w' ⟨rfl,rfl⟩)
     go_ret;exact⟨rfl,rfl⟩
   . rintro e w' ⟨rfl,rfl⟩
     exact⟨rfl,P,⟨b,be,bp,Pd,q,ek,eg,ev,pk,pg,pv,rfl,hm,hpl,ho,hl⟩,Chg.refl _ _⟩
theorem im(h:SInv w P d p X){n:Int}(hn:n<0\/(X.is.length:Int)<=n):A I 104 #[p,.int Y n] w fun e w'=>e=f (AH #[Ak K 0 0,.int Y 1])/\∃ P',SInv w' P' d p X/\Chg P P' w w':=by
 have h':=h;obtain⟨b,be,bp,Pd,q,ek,eg,ev,pk,pg,pv,rfl,hm,hpl,ho,hl⟩:=h;have KU:=wM (LJ hm);have KH:=wM (OX hm n);rw[AB (by have:=hpl.ok.lst.1;omega)] at KH;refine A.mono (R:=fun e w'=>e=f (AH #[Ak K 0 0,.int Y 1])/\w=w') ?_ ?_
 . clear hm hpl ho hl hn h'
   go_enter Tryz.func104,Tryz.ntmps104
   go_wp2_with (first
    |(go_at_call 84;refine KU.out.mono ?_;rintro e w' ⟨rfl,rfl⟩)
    |(go_at_call 93;refine KH.out.mono ?_;rintro e w' ⟨rfl,rfl⟩))
   go_ret2;exact⟨rfl,rfl⟩
 . rintro e w' ⟨rfl,rfl⟩
   exact⟨rfl,P,h',Chg.refl _ _⟩
theorem Ww(h:SInv w P d p X){n:Nat}(hn:n<X.is.length):A I 104 #[p,.int Y n] w fun e w'=>∃ v l,e=f (AH #[v,.int Y 0])/\(∃ g cap T rest,Rw w' w.heap.size v l g cap T rest)/\(D6 n->l=(if X.wi=E then X.call else X.is).getD n [])/\Ap w.heap.size w w':=by
 have h':=h;obtain⟨b,be,bp,Pd,q,ek,eg,ev,pk,pg,pv,rfl,hm,hpl,ho,hl⟩:=h;have Ux:=hpl.ok.lst.1;have Ls:=hpl.n64.2;have Uy:(Lit.int Y (n:Int)).wf=E:=JR (by omega);have KU:=wM (LJ hm);have KH:=wM (OX hm n);have KC:=wM (U0 hm Uy);rw[Az (by omega)] at KH;have Jb:D6 n->(if X.wi=E then X.call else X.is).getD n []=if (n:Int)∈pk then pv n else if (n:Int)∈ek then ev n else X.base.getD n []:=fun ho=>by
  have h1:=hpl.isx n ho hn;cases hw:X.wi
  . have h0:=hpl.wi0 hw
    rw[Ax (by decide),h1,h0,Ax Bi]
  . obtain⟨_,_,h2⟩:=hpl.wi1 hw
    rw[Au rfl,h2 n ho hn,h1]
 by_cases hin:(n:Int)∈pk\/(n:Int)∈ek
 . obtain⟨v,hv⟩:=nm ((if (n:Int)∈pk then pg n else if (n:Int)∈ek then eg n else Ak K 0 0))
   obtain⟨l,hl'⟩:=nm ((if (n:Int)∈pk then pv n else if (n:Int)∈ek then ev n else X.base.getD n []));have hblo:Blo w v l:=by
    rw[hv,hl'];by_cases hp:(n:Int)∈pk
    . rw[Au hp,Au hp];exact hm.rp _ hp
    . rw[Ax hp,Ax hp,Au (hin.resolve_left hp),Au (hin.resolve_left hp)];exact hm.re _ (hin.resolve_left hp)
   have hd:(decide ((n:Int)∈pk) || decide ((n:Int)∈ek))=E:=by simpa using hin
   rw[<- hv,hd] at KC;have KB:=wM (Ns hblo.1.bsl (by rw[hblo.2];decide));refine A.mono (R:=fun e w'=>∃ v',e=f (AH #[v',.int Y 0])/\OB w' w.heap.size v' l/\Ap w.heap.size w w') ?_ ?_
   . clear hm hpl ho hl h' Jb hin hv hl' hblo hd Uy Ux Ls hn
     go_enter Tryz.func104,Tryz.ntmps104
     go_wp2_with (first
      |(go_at_call 84;refine KU.out.mono ?_;rintro e w' ⟨rfl,rfl⟩)
      |(go_at_call 93;refine KH.out.mono ?_;rintro e w' ⟨rfl,rfl⟩)
      |(go_at_call 145;refine KC.out.mono ?_;rintro e w' ⟨rfl,rfl⟩)
      |(go_at_call 95;refine KB.out.mono ?_;rintro e w' ⟨v',rfl,hob,hbe⟩))
     go_ret2;exact⟨v',rfl,hob,hbe⟩
   . rintro e w' ⟨v',rfl,hob,hbe⟩
     exact⟨v',l,rfl,hob.rw' hblo.2,fun ho=>by rw[Jb ho,hl'],hbe⟩
 . have hd:(decide ((n:Int)∈pk) || decide ((n:Int)∈ek))=H:=by simpa using hin
   rw[hd] at KC;have hnp:(n:Int) ∉ pk:=fun e=>hin (AU e)
   have hne:(n:Int) ∉ ek:=fun e=>hin (AW e)
   rw[Ax hnp,Ax hne] at KC;have KR:=wM (iZ hm.dk n (by omega) hpl.ok.pow);have KM:=wM (fun(W:V)=>mM (Al (Z ⟨b,0,K⟩)) W 0 (by decide));have c0:=hm.c0;refine A.mono (R:=fun e w'=>∃ v',e=f (AH #[v',.int Y 0])/\(∃ g cap T rest,Rw w' w.heap.size v' (X.ds.vis.getD n []) g cap T rest)/\Ap w.heap.size w w') ?_ ?_
   . clear hm hpl ho hl h' Jb hin hd Uy Ux Ls hn hnp hne
     go_enter Tryz.func104,Tryz.ntmps104
     go_wp2_with (first
      |(go_at_call 84;refine KU.out.mono ?_;rintro e w' ⟨rfl,rfl⟩)
      |(go_at_call 93;refine KH.out.mono ?_;rintro e w' ⟨rfl,rfl⟩)
      |(go_at_call 145;refine KC.out.mono ?_;rintro e w' ⟨rfl,rfl⟩)
      |(go_at_call 146;refine KR.out.mono ?_;rintro e w' ⟨v',rfl,hbs,hbe⟩)
      |(go_at_call 131;refine(KM.out _).mono ?_;rintro e w'' ⟨rfl,rfl⟩))
     go_ret2;exact⟨_,rfl,⟨_,_,_,_,hbs⟩,hbe⟩
   . rintro e w' ⟨v',rfl,hbs,hbe⟩
     refine⟨v',_,rfl,hbs,fun ho=>?_,hbe⟩;rw[Jb ho,Ax hnp,Ax hne];have hg:=hpl.ok.lst.glen;exact hpl.ok.lst.2.1.2 n ho (by omega)
theorem Mg(h:SInv w P d p X){n:Nat}(hn:n<X.is.length):A I 104 #[p,.int Y n] w fun e w'=>∃ v l,e=f (AH #[v,.int Y 0])/\BSl w' v l/\(D6 n->l=(if X.wi=E then X.call else X.is).getD n [])/\Ap w.heap.size w w':=
 (Ww h hn).mono fun e w' ⟨v,l,he,⟨_,_,_,_,hr⟩,hj,hb⟩=>⟨v,l,he,hr.bsl,hj,hb⟩
theorem mA(h:SInv w P d p X){n:Nat}(hn:n<X.is.length):A I 104 #[p,.int Y n] w fun e w'=>∃ v l,e=f (AH #[v,.int Y 0])/\BSl w' v l/\(D6 n->l=(if X.wi=E then X.call else X.is).getD n [])/\∃ P',SInv w' P' d p X/\Chg P P' w w':=by
 have hl:=h;obtain⟨b,be,bp,Pd,q,ek,eg,ev,pk,pg,pv,rfl,hm,hpl,ho,hl'⟩:=hl;exact(Mg h hn).mono fun e w' ⟨v,l,he,hb,hj,hbe⟩=>⟨v,l,he,hb,hj,P,h.keep hbe.size fun k hk=>hbe.block k (hl' k hk),Chg.of_below hbe⟩
end
end
section
open Go.RowKit BM
def XSt.cur(X:XSt):List (List Int):=if X.wi=E then X.call else X.is
theorem XOk.curLen{X:XSt}(h:XOk X):X.cur.length=X.is.length:=by
 unfold XSt.cur;split
 . next hw=>exact h.call hw
 . rfl
section
variable {w:V}{P:Nat->Prop}{d p:C}{X:XSt}{O:List (Int × Int)}{k:Nat}
theorem SInv.lt(h:SInv w P d p X):∀ k,P k->k<w.heap.size:=by
 obtain⟨_,_,_,_,_,_,_,_,_,_,_,_,_,_,_,hl⟩:=h;exact hl
theorem SInv.low(h:SInv w P d p X){W:V}(hb:Ap w.heap.size w W):SInv W P d p X:=h.keep hb.size fun i hi=>hb.block i (h.lt i hi)
end
end
section
open Go.RowKit
theorem TL(n lo hi:Int)(w:V):A I 219 #[J Y n,J Y lo,J Y hi] w fun e w'=>e=f (AP (decide (lo<=n/\n<=hi)))/\w=w':=by
 by_cases h1:lo<=n
 . by_cases h2:n<=hi
   . rw[Az ⟨h1,h2⟩]
     go_enter Tryz.func219,Tryz.ntmps219;go_wp2;go_ret;exact⟨rfl,rfl⟩
   . rw[AB (fun h=>h2 h.2)]
     go_enter Tryz.func219,Tryz.ntmps219;go_wp2;go_ret;exact⟨rfl,rfl⟩
 . rw[AB (fun h=>h1 h.1)]
   go_enter Tryz.func219,Tryz.ntmps219;go_wp2;go_ret;exact⟨rfl,rfl⟩
theorem DG(n lo hi:Int)(B:Bool)(h:decide (lo<=n/\n<=hi)=B)(w:V):A I 219 #[J Y n,J Y lo,J Y hi] w fun e w'=>e=f (AP B)/\w=w':=by
 rw[<- h];exact TL n lo hi w
theorem Ib(b:Int)(hm:b<=9223372036854775807)(B:Bool)(h:CY b=B)(w:V):A I 205 #[J Y b] w fun e w'=>e=f (AP B)/\w=w':=by
 rw[<- h];exact GL b hm w
theorem Hw(b:Int)(hm:b<=9223372036854775807)(B:Bool)(h:CY b=B)(w:V):A I 110 #[J Y b] w fun e w'=>e=f (AP B)/\w=w':=by
 rw[<- h];exact Ke b hm w
theorem DA{b:Int}(h:CY b=E):0<=b/\b<=768/\MR b=b / 64:=by
 have:=AX h;exact⟨by omega,by omega,by unfold MR;rw[Au h]⟩
theorem LI(b:Int)(h:CY b=E)(G:Int)(hG:G=b / 64)(w:V):A I 220 #[J Y b] w fun e w'=>e=f (J Y G)/\w=w':=by
 have:=UC b (by have:=DA h;omega) w;rw[(DA h).2.2] at this;rw[hG];exact this
def Yf(G1 G2 b tg cu io ba:Int):Bool:=CY tg && (decide (b<tg) && (decide (G1<=cu/\cu<=G2) && ((io==0) && (ba==0))))
def Rb(b tg cu io ba:Int):Bool:=CY tg && (decide (b<tg) && (decide (b / 64<=cu) && (decide (cu<=tg / 64) && ((io==0) && (ba==0)))))
def Qp(b tg cu io ba:Int):Bool:=(tg==0) && (decide (1<=io) && (decide (io<=47) && (decide (0<=ba) && (decide (ba<=b) && (decide (0<=cu) && (decide (cu<=b)))))))
theorem nS(b tg cu io ba:Int):Rb b tg cu io ba=wd b tg cu io ba:=by simp[Rb,wd,Bool.decide_and,Bool.and_assoc]
theorem oC(b tg cu io ba:Int):Qp b tg cu io ba=l9 b tg cu io ba:=by simp[Qp,l9,Bool.decide_and,Bool.and_assoc]
theorem mO(b tg cu io ba t0 t1 t2 t3 t4 t5:Int)(w:V)  :A I 206 #[BN #[J Y b,J Y 0,J Y tg,J Y cu,J Y io,J Y ba,J Y t0,J Y t1,J Y t2,J Y t3,J Y t4,J Y t5]] w fun e w'=>e=f (AP (ac tg cu io ba))/\Ap w.heap.size w w':=by
 have HR:ac tg cu io ba=((tg==0) && ((cu==0) && ((io==0) && ((ba==0))))):=rfl;rcases h0:(tg==0) with _|_
 . replace HR:ac tg cu io ba=H:=by rw[HR,h0] <;> rfl
   rw[HR];clear HR;go_enter Tryz.func206,Tryz.ntmps206;go_wp2;go_ret;exact⟨rfl,As _ _⟩
 . rw[h0,AG] at HR
   rcases h1:(cu==0) with _|_
   . replace HR:ac tg cu io ba=H:=by rw[HR,h1] <;> rfl
     rw[HR];clear HR;go_enter Tryz.func206,Tryz.ntmps206;go_wp2;go_ret;exact⟨rfl,As _ _⟩
   . rw[h1,AG] at HR
     rcases h2:(io==0) with _|_
     . replace HR:ac tg cu io ba=H:=by rw[HR,h2] <;> rfl
       rw[HR];clear HR;go_enter Tryz.func206,Tryz.ntmps206;go_wp2;go_ret;exact⟨rfl,As _ _⟩
     . rw[h2,AG] at HR
       rcases h3:(ba==0) with _|_
       . replace HR:ac tg cu io ba=H:=by rw[HR,h3] <;> rfl
         rw[HR];clear HR;go_enter Tryz.func206,Tryz.ntmps206;go_wp2;go_ret;exact⟨rfl,As _ _⟩
       . rw[h3] at HR
         rw[HR];clear HR;go_enter Tryz.func206,Tryz.ntmps206;go_wp2;go_ret;exact⟨rfl,As _ _⟩
theorem oN(b tg cu io ba t0 t1 t2 t3 t4 t5:Int)(w:V)  :A I 157 #[BN #[J Y b,J Y 0,J Y tg,J Y cu,J Y io,J Y ba,J Y t0,J Y t1,J Y t2,J Y t3,J Y t4,J Y t5]] w fun e w'=>e=f (AP (ac tg cu io ba))/\Ap w.heap.size w w':=by
 have HR:ac tg cu io ba=((tg==0) && ((cu==0) && ((io==0) && ((ba==0))))):=rfl;rcases h0:(tg==0) with _|_
 . replace HR:ac tg cu io ba=H:=by rw[HR,h0] <;> rfl
   rw[HR];clear HR;go_enter Tryz.func157,Tryz.ntmps157;go_wp2;go_ret;exact⟨rfl,As _ _⟩
 . rw[h0,AG] at HR
   rcases h1:(cu==0) with _|_
   . replace HR:ac tg cu io ba=H:=by rw[HR,h1] <;> rfl
     rw[HR];clear HR;go_enter Tryz.func157,Tryz.ntmps157;go_wp2;go_ret;exact⟨rfl,As _ _⟩
   . rw[h1,AG] at HR
     rcases h2:(io==0) with _|_
     . replace HR:ac tg cu io ba=H:=by rw[HR,h2] <;> rfl
       rw[HR];clear HR;go_enter Tryz.func157,Tryz.ntmps157;go_wp2;go_ret;exact⟨rfl,As _ _⟩
     . rw[h2,AG] at HR
       rcases h3:(ba==0) with _|_
       . replace HR:ac tg cu io ba=H:=by rw[HR,h3] <;> rfl
         rw[HR];clear HR;go_enter Tryz.func157,Tryz.ntmps157;go_wp2;go_ret;exact⟨rfl,As _ _⟩
       . rw[h3] at HR
         rw[HR];clear HR;go_enter Tryz.func157,Tryz.ntmps157;go_wp2;go_ret;exact⟨rfl,As _ _⟩
theorem jE(b tg cu io ba t0 t1 t2 t3 t4 t5:Int)(w:V)(hb:CY b=E)(hm:tg<=9223372036854775807)(G1 G2:Int)(pb:G1=b / 64)(mo:G2=tg / 64):A I 206 #[BN #[J Y b,J Y 1,J Y tg,J Y cu,J Y io,J Y ba,J Y t0,J Y t1,J Y t2,J Y t3,J Y t4,J Y t5]] w fun e w'=>e=f (AP (Yf G1 G2 b tg cu io ba))/\Ap w.heap.size w w':=by
 have HR:Yf G1 G2 b tg cu io ba=((CY tg) && ((decide (b<tg)) && ((decide (G1<=cu/\cu<=G2)) && ((io==0) && ((ba==0)))))):=rfl;rcases h0:(CY tg) with _|_
 . replace HR:Yf G1 G2 b tg cu io ba=H:=by rw[HR,h0] <;> rfl
   rw[HR];clear HR;have K0:=wM (Ib tg hm H h0);clear h0;clear hb hm pb mo;go_enter Tryz.func206,Tryz.ntmps206;go_wp2;have hB:=As w (Am #[J Y b,J Y 1,J Y tg,J Y cu,J Y io,J Y ba,J Y t0,J Y t1,J Y t2,J Y t3,J Y t4,J Y t5] 135);have hh:=Ar w (Am #[J Y b,J Y 1,J Y tg,J Y cu,J Y io,J Y ba,J Y t0,J Y t1,J Y t2,J Y t3,J Y t4,J Y t5] 135);generalize w.alloc (Am #[J Y b,J Y 1,J Y tg,J Y cu,J Y io,J Y ba,J Y t0,J Y t1,J Y t2,J Y t3,J Y t4,J Y t5] 135)=W1 at hB hh |-
   have c0:W1.cell? ⟨w.heap.size,0,K⟩=Z (J Y b):=(by rw[Aq _ _ _ _ _ _ hh];rfl);have c2:W1.cell? ⟨w.heap.size,2,K⟩=Z (J Y tg):=(by rw[Aq _ _ _ _ _ _ hh];rfl);have c3:W1.cell? ⟨w.heap.size,3,K⟩=Z (J Y cu):=(by rw[Aq _ _ _ _ _ _ hh];rfl);have c4:W1.cell? ⟨w.heap.size,4,K⟩=Z (J Y io):=(by rw[Aq _ _ _ _ _ _ hh];rfl);have c5:W1.cell? ⟨w.heap.size,5,K⟩=Z (J Y ba):=(by rw[Aq _ _ _ _ _ _ hh];rfl);clear hh;go_quiet (first|(go_at_call 205;with_reducible refine B5 (K0.out _)))
   go_wp2;go_ret;exact⟨rfl,AM hB _⟩
 . rw[h0,AG] at HR
   have hK2:=wM (LI tg h0 G2 mo);have K0:=wM (Ib tg hm E h0);clear h0;rcases h1:(decide (b<tg)) with _|_
   . replace HR:Yf G1 G2 b tg cu io ba=H:=by rw[HR,h1] <;> rfl
     rw[HR];clear HR;have g1:¬ b<tg:=BB h1;clear hb hm pb mo;go_enter Tryz.func206,Tryz.ntmps206;go_wp2;have hB:=As w (Am #[J Y b,J Y 1,J Y tg,J Y cu,J Y io,J Y ba,J Y t0,J Y t1,J Y t2,J Y t3,J Y t4,J Y t5] 135);have hh:=Ar w (Am #[J Y b,J Y 1,J Y tg,J Y cu,J Y io,J Y ba,J Y t0,J Y t1,J Y t2,J Y t3,J Y t4,J Y t5] 135);generalize w.alloc (Am #[J Y b,J Y 1,J Y tg,J Y cu,J Y io,J Y ba,J Y t0,J Y t1,J Y t2,J Y t3,J Y t4,J Y t5] 135)=W1 at hB hh |-
     have c0:W1.cell? ⟨w.heap.size,0,K⟩=Z (J Y b):=(by rw[Aq _ _ _ _ _ _ hh];rfl);have c2:W1.cell? ⟨w.heap.size,2,K⟩=Z (J Y tg):=(by rw[Aq _ _ _ _ _ _ hh];rfl);have c3:W1.cell? ⟨w.heap.size,3,K⟩=Z (J Y cu):=(by rw[Aq _ _ _ _ _ _ hh];rfl);have c4:W1.cell? ⟨w.heap.size,4,K⟩=Z (J Y io):=(by rw[Aq _ _ _ _ _ _ hh];rfl);have c5:W1.cell? ⟨w.heap.size,5,K⟩=Z (J Y ba):=(by rw[Aq _ _ _ _ _ _ hh];rfl);clear hh;go_quiet (first|(go_at_call 205;with_reducible refine B5 (K0.out _)))
     go_wp2;go_ret;exact⟨rfl,AM hB _⟩
   . rw[h1,AG] at HR
     have g1:b<tg:=AX h1;rcases h2:(decide (G1<=cu/\cu<=G2)) with _|_
     . replace HR:Yf G1 G2 b tg cu io ba=H:=by rw[HR,h2] <;> rfl
       rw[HR];clear HR;have K1:=wM (LI b hb G1 pb);have K2:=wM (hK2.out);have K3:=wM (DG cu (G1) (G2) H h2);clear h2;clear hb hm pb mo;go_enter Tryz.func206,Tryz.ntmps206;go_wp2;have hB:=As w (Am #[J Y b,J Y 1,J Y tg,J Y cu,J Y io,J Y ba,J Y t0,J Y t1,J Y t2,J Y t3,J Y t4,J Y t5] 135);have hh:=Ar w (Am #[J Y b,J Y 1,J Y tg,J Y cu,J Y io,J Y ba,J Y t0,J Y t1,J Y t2,J Y t3,J Y t4,J Y t5] 135);generalize w.alloc (Am #[J Y b,J Y 1,J Y tg,J Y cu,J Y io,J Y ba,J Y t0,J Y t1,J Y t2,J Y t3,J Y t4,J Y t5] 135)=W1 at hB hh |-
       have c0:W1.cell? ⟨w.heap.size,0,K⟩=Z (J Y b):=(by rw[Aq _ _ _ _ _ _ hh];rfl);have c2:W1.cell? ⟨w.heap.size,2,K⟩=Z (J Y tg):=(by rw[Aq _ _ _ _ _ _ hh];rfl);have c3:W1.cell? ⟨w.heap.size,3,K⟩=Z (J Y cu):=(by rw[Aq _ _ _ _ _ _ hh];rfl);have c4:W1.cell? ⟨w.heap.size,4,K⟩=Z (J Y io):=(by rw[Aq _ _ _ _ _ _ hh];rfl);have c5:W1.cell? ⟨w.heap.size,5,K⟩=Z (J Y ba):=(by rw[Aq _ _ _ _ _ _ hh];rfl);clear hh;go_quiet (first|(go_at_call 205;with_reducible refine B5 (K0.out _))|(go_at_call 220;with_reducible refine B5 (K1.out _))|(go_at_call 220;with_reducible refine B5 (K2.out _))|(go_at_call 219;with_reducible refine B5 (K3.out _)))
       go_wp2;go_ret;exact⟨rfl,AM hB _⟩
     . rw[h2,AG] at HR
       have K1:=wM (LI b hb G1 pb);have K2:=wM (hK2.out);have K3:=wM (DG cu (G1) (G2) E h2);clear h2;rcases h3:(io==0) with _|_
       . replace HR:Yf G1 G2 b tg cu io ba=H:=by rw[HR,h3] <;> rfl
         rw[HR];clear HR;clear hb hm pb mo;go_enter Tryz.func206,Tryz.ntmps206;go_wp2;have hB:=As w (Am #[J Y b,J Y 1,J Y tg,J Y cu,J Y io,J Y ba,J Y t0,J Y t1,J Y t2,J Y t3,J Y t4,J Y t5] 135);have hh:=Ar w (Am #[J Y b,J Y 1,J Y tg,J Y cu,J Y io,J Y ba,J Y t0,J Y t1,J Y t2,J Y t3,J Y t4,J Y t5] 135);generalize w.alloc (Am #[J Y b,J Y 1,J Y tg,J Y cu,J Y io,J Y ba,J Y t0,J Y t1,J Y t2,J Y t3,J Y t4,J Y t5] 135)=W1 at hB hh |-
         have c0:W1.cell? ⟨w.heap.size,0,K⟩=Z (J Y b):=(by rw[Aq _ _ _ _ _ _ hh];rfl);have c2:W1.cell? ⟨w.heap.size,2,K⟩=Z (J Y tg):=(by rw[Aq _ _ _ _ _ _ hh];rfl);have c3:W1.cell? ⟨w.heap.size,3,K⟩=Z (J Y cu):=(by rw[Aq _ _ _ _ _ _ hh];rfl);have c4:W1.cell? ⟨w.heap.size,4,K⟩=Z (J Y io):=(by rw[Aq _ _ _ _ _ _ hh];rfl);have c5:W1.cell? ⟨w.heap.size,5,K⟩=Z (J Y ba):=(by rw[Aq _ _ _ _ _ _ hh];rfl);clear hh;go_quiet (first|(go_at_call 205;with_reducible refine B5 (K0.out _))|(go_at_call 220;with_reducible refine B5 (K1.out _))|(go_at_call 220;with_reducible refine B5 (K2.out _))|(go_at_call 219;with_reducible refine B5 (K3.out _)))
         go_wp2;go_ret;exact⟨rfl,AM hB _⟩
       . rw[h3,AG] at HR
         rcases h4:(ba==0) with _|_
         . replace HR:Yf G1 G2 b tg cu io ba=H:=by rw[HR,h4] <;> rfl
           rw[HR];clear HR;clear hb hm pb mo;go_enter Tryz.func206,Tryz.ntmps206;go_wp2;have hB:=As w (Am #[J Y b,J Y 1,J Y tg,J Y cu,J Y io,J Y ba,J Y t0,J Y t1,J Y t2,J Y t3,J Y t4,J Y t5] 135);have hh:=Ar w (Am #[J Y b,J Y 1,J Y tg,J Y cu,J Y io,J Y ba,J Y t0,J Y t1,J Y t2,J Y t3,J Y t4,J Y t5] 135);generalize w.alloc (Am #[J Y b,J Y 1,J Y tg,J Y cu,J Y io,J Y ba,J Y t0,J Y t1,J Y t2,J Y t3,J Y t4,J Y t5] 135)=W1 at hB hh |-
           have c0:W1.cell? ⟨w.heap.size,0,K⟩=Z (J Y b):=(by rw[Aq _ _ _ _ _ _ hh];rfl);have c2:W1.cell? ⟨w.heap.size,2,K⟩=Z (J Y tg):=(by rw[Aq _ _ _ _ _ _ hh];rfl);have c3:W1.cell? ⟨w.heap.size,3,K⟩=Z (J Y cu):=(by rw[Aq _ _ _ _ _ _ hh];rfl);have c4:W1.cell? ⟨w.heap.size,4,K⟩=Z (J Y io):=(by rw[Aq _ _ _ _ _ _ hh];rfl);have c5:W1.cell? ⟨w.heap.size,5,K⟩=Z (J Y ba):=(by rw[Aq _ _ _ _ _ _ hh];rfl);clear hh;go_quiet (first|(go_at_call 205;with_reducible refine B5 (K0.out _))|(go_at_call 220;with_reducible refine B5 (K1.out _))|(go_at_call 220;with_reducible refine B5 (K2.out _))|(go_at_call 219;with_reducible refine B5 (K3.out _)))
           go_wp2;go_ret;exact⟨rfl,AM hB _⟩
         . rw[h4] at HR
           rw[HR];clear HR;clear hb hm pb mo;go_enter Tryz.func206,Tryz.ntmps206;go_wp2;have hB:=As w (Am #[J Y b,J Y 1,J Y tg,J Y cu,J Y io,J Y ba,J Y t0,J Y t1,J Y t2,J Y t3,J Y t4,J Y t5] 135);have hh:=Ar w (Am #[J Y b,J Y 1,J Y tg,J Y cu,J Y io,J Y ba,J Y t0,J Y t1,J Y t2,J Y t3,J Y t4,J Y t5] 135);generalize w.alloc (Am #[J Y b,J Y 1,J Y tg,J Y cu,J Y io,J Y ba,J Y t0,J Y t1,J Y t2,J Y t3,J Y t4,J Y t5] 135)=W1 at hB hh |-
           have c0:W1.cell? ⟨w.heap.size,0,K⟩=Z (J Y b):=(by rw[Aq _ _ _ _ _ _ hh];rfl);have c2:W1.cell? ⟨w.heap.size,2,K⟩=Z (J Y tg):=(by rw[Aq _ _ _ _ _ _ hh];rfl);have c3:W1.cell? ⟨w.heap.size,3,K⟩=Z (J Y cu):=(by rw[Aq _ _ _ _ _ _ hh];rfl);have c4:W1.cell? ⟨w.heap.size,4,K⟩=Z (J Y io):=(by rw[Aq _ _ _ _ _ _ hh];rfl);have c5:W1.cell? ⟨w.heap.size,5,K⟩=Z (J Y ba):=(by rw[Aq _ _ _ _ _ _ hh];rfl);clear hh;go_quiet (first|(go_at_call 205;with_reducible refine B5 (K0.out _))|(go_at_call 220;with_reducible refine B5 (K1.out _))|(go_at_call 220;with_reducible refine B5 (K2.out _))|(go_at_call 219;with_reducible refine B5 (K3.out _)))
           go_wp2;go_ret;exact⟨rfl,AM hB _⟩
theorem oO(b tg cu io ba t0 t1 t2 t3 t4 t5:Int)(w:V)(hb:CY b=E)(hm:tg<=9223372036854775807):A I 206 #[BN #[J Y b,J Y 2,J Y tg,J Y cu,J Y io,J Y ba,J Y t0,J Y t1,J Y t2,J Y t3,J Y t4,J Y t5]] w fun e w'=>e=f (AP (WX b tg cu io ba))/\Ap w.heap.size w w':=by
 have hb0:0<=b:=(DA hb).1;have hb1:b<=768:=(DA hb).2.1;have HR:WX b tg cu io ba=((CY tg) && ((decide (tg<b)) && ((cu==0) && ((io==0) && ((ba==0)))))):=rfl;rcases h0:(CY tg) with _|_
 . replace HR:WX b tg cu io ba=H:=by rw[HR,h0] <;> rfl
   rw[HR];clear HR;have K0:=wM (Ib tg hm H h0);clear h0;clear hb hm;go_enter Tryz.func206,Tryz.ntmps206;go_wp2_with (first|(go_at_call 205;with_reducible refine(K0.out _).mono ?_;rintro e w' ⟨rfl,rfl⟩))
   go_ret;exact⟨rfl,As _ _⟩
 . rw[h0,AG] at HR
   have ht0:0<=tg:=(DA h0).1;have sr:tg<=768:=(DA h0).2.1;have K0:=wM (Ib tg hm E h0);clear h0;rcases h1:(decide (tg<b)) with _|_
   . replace HR:WX b tg cu io ba=H:=by rw[HR,h1] <;> rfl
     rw[HR];clear HR;have g1:¬ tg<b:=BB h1;clear hb hm;go_enter Tryz.func206,Tryz.ntmps206;go_wp2_with (first|(go_at_call 205;with_reducible refine(K0.out _).mono ?_;rintro e w' ⟨rfl,rfl⟩))
     go_ret;exact⟨rfl,As _ _⟩
   . rw[h1,AG] at HR
     have g1:tg<b:=AX h1;rcases h2:(cu==0) with _|_
     . replace HR:WX b tg cu io ba=H:=by rw[HR,h2] <;> rfl
       rw[HR];clear HR;clear hb hm;go_enter Tryz.func206,Tryz.ntmps206;go_wp2_with (first|(go_at_call 205;with_reducible refine(K0.out _).mono ?_;rintro e w' ⟨rfl,rfl⟩))
       go_ret;exact⟨rfl,As _ _⟩
     . rw[h2,AG] at HR
       rcases h3:(io==0) with _|_
       . replace HR:WX b tg cu io ba=H:=by rw[HR,h3] <;> rfl
         rw[HR];clear HR;clear hb hm;go_enter Tryz.func206,Tryz.ntmps206;go_wp2_with (first|(go_at_call 205;with_reducible refine(K0.out _).mono ?_;rintro e w' ⟨rfl,rfl⟩))
         go_ret;exact⟨rfl,As _ _⟩
       . rw[h3,AG] at HR
         rcases h4:(ba==0) with _|_
         . replace HR:WX b tg cu io ba=H:=by rw[HR,h4] <;> rfl
           rw[HR];clear HR;clear hb hm;go_enter Tryz.func206,Tryz.ntmps206;go_wp2_with (first|(go_at_call 205;with_reducible refine(K0.out _).mono ?_;rintro e w' ⟨rfl,rfl⟩))
           go_ret;exact⟨rfl,As _ _⟩
         . rw[h4] at HR
           rw[HR];clear HR;clear hb hm;go_enter Tryz.func206,Tryz.ntmps206;go_wp2_with (first|(go_at_call 205;with_reducible refine(K0.out _).mono ?_;rintro e w' ⟨rfl,rfl⟩))
           go_ret;exact⟨rfl,As _ _⟩
theorem nw(b tg cu io ba t0 t1 t2 t3 t4 t5:Int)(w:V)(hb:CY b=E)(hm:tg<=9223372036854775807):A I 206 #[BN #[J Y b,J Y 3,J Y tg,J Y cu,J Y io,J Y ba,J Y t0,J Y t1,J Y t2,J Y t3,J Y t4,J Y t5]] w fun e w'=>e=f (AP (l9 b tg cu io ba))/\Ap w.heap.size w w':=by
 have HR:l9 b tg cu io ba=((tg==0) && ((decide (1<=io/\io<=47)) && ((decide (0<=ba/\ba<=b)) && ((decide (0<=cu/\cu<=b)))))):=rfl;rcases h0:(tg==0) with _|_
 . replace HR:l9 b tg cu io ba=H:=by rw[HR,h0] <;> rfl
   rw[HR];clear HR;clear hb hm;go_enter Tryz.func206,Tryz.ntmps206;go_wp2;go_ret;exact⟨rfl,As _ _⟩
 . rw[h0,AG] at HR
   rcases h1:(decide (1<=io/\io<=47)) with _|_
   . replace HR:l9 b tg cu io ba=H:=by rw[HR,h1] <;> rfl
     rw[HR];clear HR;have K0:=wM (DG io (1) (47) H h1);clear h1;clear hb hm;go_enter Tryz.func206,Tryz.ntmps206;go_wp2_with (first|(go_at_call 219;with_reducible refine(K0.out _).mono ?_;rintro e w' ⟨rfl,rfl⟩))
     go_ret;exact⟨rfl,As _ _⟩
   . rw[h1,AG] at HR
     have K0:=wM (DG io (1) (47) E h1);clear h1;rcases h2:(decide (0<=ba/\ba<=b)) with _|_
     . replace HR:l9 b tg cu io ba=H:=by rw[HR,h2] <;> rfl
       rw[HR];clear HR;have K1:=wM (DG ba (0) (b) H h2);clear h2;clear hb hm;go_enter Tryz.func206,Tryz.ntmps206;go_wp2_with (first|(go_at_call 219;with_reducible refine(K0.out _).mono ?_;rintro e w' ⟨rfl,rfl⟩)|(go_at_call 219;with_reducible refine(K1.out _).mono ?_;rintro e w' ⟨rfl,rfl⟩))
       go_ret;exact⟨rfl,As _ _⟩
     . rw[h2,AG] at HR
       have K1:=wM (DG ba (0) (b) E h2);clear h2;rcases h3:(decide (0<=cu/\cu<=b)) with _|_
       . replace HR:l9 b tg cu io ba=H:=by rw[HR,h3] <;> rfl
         rw[HR];clear HR;have K2:=wM (DG cu (0) (b) H h3);clear h3;clear hb hm;go_enter Tryz.func206,Tryz.ntmps206;go_wp2_with (first|(go_at_call 219;with_reducible refine(K0.out _).mono ?_;rintro e w' ⟨rfl,rfl⟩)|(go_at_call 219;with_reducible refine(K1.out _).mono ?_;rintro e w' ⟨rfl,rfl⟩)|(go_at_call 219;with_reducible refine(K2.out _).mono ?_;rintro e w' ⟨rfl,rfl⟩))
         go_ret;exact⟨rfl,As _ _⟩
       . rw[h3] at HR
         have K2:=wM (DG cu (0) (b) E h3);clear h3;rw[HR];clear HR;clear hb hm;go_enter Tryz.func206,Tryz.ntmps206;go_wp2_with (first|(go_at_call 219;with_reducible refine(K0.out _).mono ?_;rintro e w' ⟨rfl,rfl⟩)|(go_at_call 219;with_reducible refine(K1.out _).mono ?_;rintro e w' ⟨rfl,rfl⟩)|(go_at_call 219;with_reducible refine(K2.out _).mono ?_;rintro e w' ⟨rfl,rfl⟩))
         go_ret;exact⟨rfl,As _ _⟩
theorem oD(b tg cu io ba t0 t1 t2 t3 t4 t5:Int)(w:V)(hb:CY b=E)(hm:tg<=9223372036854775807):A I 157 #[BN #[J Y b,J Y 1,J Y tg,J Y cu,J Y io,J Y ba,J Y t0,J Y t1,J Y t2,J Y t3,J Y t4,J Y t5]] w fun e w'=>e=f (AP (Rb b tg cu io ba))/\Ap w.heap.size w w':=by
 have hb0:0<=b:=(DA hb).1;have hb1:b<=768:=(DA hb).2.1;have HR:Rb b tg cu io ba=((CY tg) && ((decide (b<tg)) && ((decide (b / 64<=cu)) && ((decide (cu<=tg / 64)) && ((io==0) && ((ba==0))))))):=rfl;rcases h0:(CY tg) with _|_
 . replace HR:Rb b tg cu io ba=H:=by rw[HR,h0] <;> rfl
   rw[HR];clear HR;have K0:=wM (Hw tg hm H h0);clear h0;clear hb hm;go_enter Tryz.func157,Tryz.ntmps157;go_wp2_with (first|(go_at_call 110;with_reducible refine(K0.out _).mono ?_;rintro e w' ⟨rfl,rfl⟩))
   go_ret;exact⟨rfl,As _ _⟩
 . rw[h0,AG] at HR
   have ht0:0<=tg:=(DA h0).1;have sr:tg<=768:=(DA h0).2.1;have K0:=wM (Hw tg hm E h0);clear h0;rcases h1:(decide (b<tg)) with _|_
   . replace HR:Rb b tg cu io ba=H:=by rw[HR,h1] <;> rfl
     rw[HR];clear HR;have g1:¬ b<tg:=BB h1;clear hb hm;go_enter Tryz.func157,Tryz.ntmps157;go_wp2_with (first|(go_at_call 110;with_reducible refine(K0.out _).mono ?_;rintro e w' ⟨rfl,rfl⟩))
     go_ret;exact⟨rfl,As _ _⟩
   . rw[h1,AG] at HR
     have g1:b<tg:=AX h1;rcases h2:(decide (b / 64<=cu)) with _|_
     . replace HR:Rb b tg cu io ba=H:=by rw[HR,h2] <;> rfl
       rw[HR];clear HR;have g2:¬ b / 64<=cu:=BB h2;clear hb hm;go_enter Tryz.func157,Tryz.ntmps157;go_wp2_with (first|(go_at_call 110;with_reducible refine(K0.out _).mono ?_;rintro e w' ⟨rfl,rfl⟩))
       go_ret;exact⟨rfl,As _ _⟩
     . rw[h2,AG] at HR
       have g2:b / 64<=cu:=AX h2;rcases h3:(decide (cu<=tg / 64)) with _|_
       . replace HR:Rb b tg cu io ba=H:=by rw[HR,h3] <;> rfl
         rw[HR];clear HR;have g3:¬ cu<=tg / 64:=BB h3;clear hb hm;go_enter Tryz.func157,Tryz.ntmps157;go_wp2_with (first|(go_at_call 110;with_reducible refine(K0.out _).mono ?_;rintro e w' ⟨rfl,rfl⟩))
         go_ret;exact⟨rfl,As _ _⟩
       . rw[h3,AG] at HR
         have g3:cu<=tg / 64:=AX h3;rcases h4:(io==0) with _|_
         . replace HR:Rb b tg cu io ba=H:=by rw[HR,h4] <;> rfl
           rw[HR];clear HR;clear hb hm;go_enter Tryz.func157,Tryz.ntmps157;go_wp2_with (first|(go_at_call 110;with_reducible refine(K0.out _).mono ?_;rintro e w' ⟨rfl,rfl⟩))
           go_ret;exact⟨rfl,As _ _⟩
         . rw[h4,AG] at HR
           rcases h5:(ba==0) with _|_
           . replace HR:Rb b tg cu io ba=H:=by rw[HR,h5] <;> rfl
             rw[HR];clear HR;clear hb hm;go_enter Tryz.func157,Tryz.ntmps157;go_wp2_with (first|(go_at_call 110;with_reducible refine(K0.out _).mono ?_;rintro e w' ⟨rfl,rfl⟩))
             go_ret;exact⟨rfl,As _ _⟩
           . rw[h5] at HR
             rw[HR];clear HR;clear hb hm;go_enter Tryz.func157,Tryz.ntmps157;go_wp2_with (first|(go_at_call 110;with_reducible refine(K0.out _).mono ?_;rintro e w' ⟨rfl,rfl⟩))
             go_ret;exact⟨rfl,As _ _⟩
theorem oZ(b tg cu io ba t0 t1 t2 t3 t4 t5:Int)(w:V)(hb:CY b=E)(hm:tg<=9223372036854775807):A I 157 #[BN #[J Y b,J Y 2,J Y tg,J Y cu,J Y io,J Y ba,J Y t0,J Y t1,J Y t2,J Y t3,J Y t4,J Y t5]] w fun e w'=>e=f (AP (WX b tg cu io ba))/\Ap w.heap.size w w':=by
 have hb0:0<=b:=(DA hb).1;have hb1:b<=768:=(DA hb).2.1;have HR:WX b tg cu io ba=((CY tg) && ((decide (tg<b)) && ((cu==0) && ((io==0) && ((ba==0)))))):=rfl;rcases h0:(CY tg) with _|_
 . replace HR:WX b tg cu io ba=H:=by rw[HR,h0] <;> rfl
   rw[HR];clear HR;have K0:=wM (Hw tg hm H h0);clear h0;clear hb hm;go_enter Tryz.func157,Tryz.ntmps157;go_wp2_with (first|(go_at_call 110;with_reducible refine(K0.out _).mono ?_;rintro e w' ⟨rfl,rfl⟩))
   go_ret;exact⟨rfl,As _ _⟩
 . rw[h0,AG] at HR
   have ht0:0<=tg:=(DA h0).1;have sr:tg<=768:=(DA h0).2.1;have K0:=wM (Hw tg hm E h0);clear h0;rcases h1:(decide (tg<b)) with _|_
   . replace HR:WX b tg cu io ba=H:=by rw[HR,h1] <;> rfl
     rw[HR];clear HR;have g1:¬ tg<b:=BB h1;clear hb hm;go_enter Tryz.func157,Tryz.ntmps157;go_wp2_with (first|(go_at_call 110;with_reducible refine(K0.out _).mono ?_;rintro e w' ⟨rfl,rfl⟩))
     go_ret;exact⟨rfl,As _ _⟩
   . rw[h1,AG] at HR
     have g1:tg<b:=AX h1;rcases h2:(cu==0) with _|_
     . replace HR:WX b tg cu io ba=H:=by rw[HR,h2] <;> rfl
       rw[HR];clear HR;clear hb hm;go_enter Tryz.func157,Tryz.ntmps157;go_wp2_with (first|(go_at_call 110;with_reducible refine(K0.out _).mono ?_;rintro e w' ⟨rfl,rfl⟩))
       go_ret;exact⟨rfl,As _ _⟩
     . rw[h2,AG] at HR
       rcases h3:(io==0) with _|_
       . replace HR:WX b tg cu io ba=H:=by rw[HR,h3] <;> rfl
         rw[HR];clear HR;clear hb hm;go_enter Tryz.func157,Tryz.ntmps157;go_wp2_with (first|(go_at_call 110;with_reducible refine(K0.out _).mono ?_;rintro e w' ⟨rfl,rfl⟩))
         go_ret;exact⟨rfl,As _ _⟩
       . rw[h3,AG] at HR
         rcases h4:(ba==0) with _|_
         . replace HR:WX b tg cu io ba=H:=by rw[HR,h4] <;> rfl
           rw[HR];clear HR;clear hb hm;go_enter Tryz.func157,Tryz.ntmps157;go_wp2_with (first|(go_at_call 110;with_reducible refine(K0.out _).mono ?_;rintro e w' ⟨rfl,rfl⟩))
           go_ret;exact⟨rfl,As _ _⟩
         . rw[h4] at HR
           rw[HR];clear HR;clear hb hm;go_enter Tryz.func157,Tryz.ntmps157;go_wp2_with (first|(go_at_call 110;with_reducible refine(K0.out _).mono ?_;rintro e w' ⟨rfl,rfl⟩))
           go_ret;exact⟨rfl,As _ _⟩
theorem oh(b tg cu io ba t0 t1 t2 t3 t4 t5:Int)(w:V)(hb:CY b=E)(hm:tg<=9223372036854775807):A I 157 #[BN #[J Y b,J Y 3,J Y tg,J Y cu,J Y io,J Y ba,J Y t0,J Y t1,J Y t2,J Y t3,J Y t4,J Y t5]] w fun e w'=>e=f (AP (Qp b tg cu io ba))/\Ap w.heap.size w w':=by
 have hb0:0<=b:=(DA hb).1;have hb1:b<=768:=(DA hb).2.1;have HR:Qp b tg cu io ba=((tg==0) && ((decide (1<=io)) && ((decide (io<=47)) && ((decide (0<=ba)) && ((decide (ba<=b)) && ((decide (0<=cu)) && ((decide (cu<=b))))))))):=rfl;rcases h0:(tg==0) with _|_
 . replace HR:Qp b tg cu io ba=H:=by rw[HR,h0] <;> rfl
   rw[HR];clear HR;clear hb hm;go_enter Tryz.func157,Tryz.ntmps157;go_wp2;go_ret;exact⟨rfl,As _ _⟩
 . rw[h0,AG] at HR
   rcases h1:(decide (1<=io)) with _|_
   . replace HR:Qp b tg cu io ba=H:=by rw[HR,h1] <;> rfl
     rw[HR];clear HR;have g1:¬ 1<=io:=BB h1;clear hb hm;go_enter Tryz.func157,Tryz.ntmps157;go_wp2;go_ret;exact⟨rfl,As _ _⟩
   . rw[h1,AG] at HR
     have g1:1<=io:=AX h1;rcases h2:(decide (io<=47)) with _|_
     . replace HR:Qp b tg cu io ba=H:=by rw[HR,h2] <;> rfl
       rw[HR];clear HR;have g2:¬ io<=47:=BB h2;clear hb hm;go_enter Tryz.func157,Tryz.ntmps157;go_wp2;go_ret;exact⟨rfl,As _ _⟩
     . rw[h2,AG] at HR
       have g2:io<=47:=AX h2;rcases h3:(decide (0<=ba)) with _|_
       . replace HR:Qp b tg cu io ba=H:=by rw[HR,h3] <;> rfl
         rw[HR];clear HR;have g3:¬ 0<=ba:=BB h3;clear hb hm;go_enter Tryz.func157,Tryz.ntmps157;go_wp2;go_ret;exact⟨rfl,As _ _⟩
       . rw[h3,AG] at HR
         have g3:0<=ba:=AX h3;rcases h4:(decide (ba<=b)) with _|_
         . replace HR:Qp b tg cu io ba=H:=by rw[HR,h4] <;> rfl
           rw[HR];clear HR;have g4:¬ ba<=b:=BB h4;clear hb hm;go_enter Tryz.func157,Tryz.ntmps157;go_wp2;go_ret;exact⟨rfl,As _ _⟩
         . rw[h4,AG] at HR
           have g4:ba<=b:=AX h4;rcases h5:(decide (0<=cu)) with _|_
           . replace HR:Qp b tg cu io ba=H:=by rw[HR,h5] <;> rfl
             rw[HR];clear HR;have g5:¬ 0<=cu:=BB h5;clear hb hm;go_enter Tryz.func157,Tryz.ntmps157;go_wp2;go_ret;exact⟨rfl,As _ _⟩
           . rw[h5,AG] at HR
             have g5:0<=cu:=AX h5;rcases h6:(decide (cu<=b)) with _|_
             . replace HR:Qp b tg cu io ba=H:=by rw[HR,h6] <;> rfl
               rw[HR];clear HR;have g6:¬ cu<=b:=BB h6;clear hb hm;go_enter Tryz.func157,Tryz.ntmps157;go_wp2;go_ret;exact⟨rfl,As _ _⟩
             . rw[h6] at HR
               have g6:cu<=b:=AX h6;rw[HR];clear HR;clear hb hm;go_enter Tryz.func157,Tryz.ntmps157;go_wp2;go_ret;exact⟨rfl,As _ _⟩
theorem nO(st:Int)(b tg cu io ba t0 t1 t2 t3 t4 t5:Int)(w:V)(h0:st≠0)(h1:st≠1)(h2:st≠2)(h3:st≠3):A I 206 #[BN #[J Y b,J Y st,J Y tg,J Y cu,J Y io,J Y ba,J Y t0,J Y t1,J Y t2,J Y t3,J Y t4,J Y t5]] w fun e w'=>e=f (AP H)/\Ap w.heap.size w w':=by
 have e0:(st==0)=H:=by simp[h0]
 have e1:(st==1)=H:=by simp[h1]
 have e2:(st==2)=H:=by simp[h2]
 have e3:(st==3)=H:=by simp[h3]
 clear h0 h1 h2 h3;go_enter Tryz.func206,Tryz.ntmps206;go_wp2;go_ret;exact⟨rfl,As _ _⟩
theorem mJ(st:Int)(b tg cu io ba t0 t1 t2 t3 t4 t5:Int)(w:V)(h0:st≠0)(h1:st≠1)(h2:st≠2)(h3:st≠3):A I 157 #[BN #[J Y b,J Y st,J Y tg,J Y cu,J Y io,J Y ba,J Y t0,J Y t1,J Y t2,J Y t3,J Y t4,J Y t5]] w fun e w'=>e=f (AP H)/\Ap w.heap.size w w':=by
 have e0:(st==0)=H:=by simp[h0]
 have e1:(st==1)=H:=by simp[h1]
 have e2:(st==2)=H:=by simp[h2]
 have e3:(st==3)=H:=by simp[h3]
 clear h0 h1 h2 h3;go_enter Tryz.func157,Tryz.ntmps157;go_wp2;go_ret;exact⟨rfl,As _ _⟩
end
end Go.Proofs.YtfpdajplfmakhaaGreatDoor
