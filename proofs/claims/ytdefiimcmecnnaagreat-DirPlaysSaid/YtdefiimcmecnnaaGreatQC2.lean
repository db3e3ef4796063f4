/- What the law rests on. -/
import Derived.RegionTactic
import Derived.BigRegion
import Derived.Deep.RegionHeld3
import Derived.Laws.ResultCell
import Derived.Laws.Tables
import Derived.Laws.Rows
import Derived.Deep.Slices
import Derived.Deep.Fields
import Derived.ProofKit
import Derived.Deep.RegionLaw
import Derived.Deep.AppendLies
import Derived.Deep.RegionHeld
import Derived.Lib.SlBytesConst
import Derived.StillTailTactics
import Derived.Deep.RegionHeldLaw
import Derived.Great.BuildSlice
import Derived.Test.YtdefiimcmecnnaaGreatQC1
open Go.Value renaming int->Y,slice->Ak,pointer->Am,tuple->AO,bool->A1,agg->BD
open Go.IntKind renaming i64->I
open Go.Proofs.Tryz renaming prog->Ae
open Option renaming none->J,some->H
open Go.Ending renaming returned->Ag
open Go renaming World->E,Value->X,Calls->AA,Oper->BS,wpList->Cn
open Go.Obj renaming cells->d
open List renaming getElem_toArray->As,replicate->AD,nil_append->B0,length_cons->Ch,range->Co
open Go.RowKit renaming Below->At
open Bool renaming false->AI,true->AL
open Or renaming inl->AN,inr->Ba
open Array renaming replicate->A3
open Int renaming toNat_natCast->B5
namespace Go.Proofs.YtdefiimcmecnnaaGreat
set_option maxHeartbeats 12000000
set_option linter.unusedVariables false
set_option maxRecDepth 100000
theorem AJ:type_of% @List.length_set:=@List.length_set
theorem AX:type_of% @Nat.zero_le:=@Nat.zero_le
theorem A4:type_of% @List.length_replicate:=@List.length_replicate
theorem Be:type_of% @List.take_append_drop:=@List.take_append_drop
theorem Bf:type_of% @List.getElem_mem:=@List.getElem_mem
theorem Bh:type_of% @Go.World.cell?_of_block:=@Go.World.cell?_of_block
theorem Bv:type_of% @Go.bodyPost_ret:=@Go.bodyPost_ret
theorem BB:type_of% @List.append_nil:=@List.append_nil
theorem BO:type_of% @Nat.le_of_lt:=@Nat.le_of_lt
theorem Cg:type_of% @List.getElem_range:=@List.getElem_range
theorem Ct:type_of% @List.getElem_map:=@List.getElem_map
theorem Cu:type_of% @Go.heap_alloc_last:=@Go.heap_alloc_last
theorem Cy:type_of% @List.mem_cons:=@List.mem_cons
theorem Cz:type_of% @List.getElem_set:=@List.getElem_set
theorem CN:type_of% @List.map_congr_left:=@List.map_congr_left
theorem CR:type_of% @Ne.symm:=@Ne.symm
theorem C7:type_of% @List.getElem_take:=@List.getElem_take
theorem Do:type_of% @Go.wpList_store_row:=@Go.wpList_store_row
theorem Dr:type_of% @List.mem_or_eq_of_mem_set:=@List.mem_or_eq_of_mem_set
theorem DF:type_of% @Nat.min_eq_left:=@Nat.min_eq_left
theorem DJ:type_of% @List.all_eq_true:=@List.all_eq_true
theorem Et:type_of% @List.mem_singleton:=@List.mem_singleton
theorem Fg:type_of% @Go.ByteArray.toList_eq:=@Go.ByteArray.toList_eq
theorem Fk:type_of% @Go.World.setRow_alloc_new:=@Go.World.setRow_alloc_new
section
open Go.RowKit
def Qq(l:List Int)(w:E)(e:Ending)(w':E):Prop:=
 ∃ v,e=Ag (AO #[v,Y I 0])/\OB w' w.heap.size v (BU l)/\At w.heap.size w w'
theorem ZP{w0 w:E}{v:X}{l:List Int}(hs:BSl w0 v l)(hk:At w0.heap.size w0 w)(hl:l.length<=140737488355300)(S:Int)(hS:S=FB l):
 AA Ae 193 #[v] w fun e w'=>e=Ag (Y .u32 S)/\w=w':=by rw[hS];exact jb (hs.below hk) hl
theorem tr{w:E}{v:X}{l:List Int}(hs:BSl w v l)(hl:l.length=252)(S:Int)(hS:S=FB l):
 AA Ae 158 #[v,Y .u64 S,Y I 4] w (JZ w (l ++ BN (FB l) 4)):=by
 have hb:=FY l;rw[hS];exact FX hs (by omega) _ 4 4 (by omega) (by omega) rfl hb.1 (by omega)
theorem sZ{w:E}{v:X}{l:List Int}(hs:BSl w v l)(hl:l.length=252)(S:Int)(hS:S=FB l):
 AA Ae 79 #[v,Y .u64 S,Y I 4] w (JZ w (l ++ BN (FB l) 4)):=by
 have hb:=FY l;rw[hS];exact GO hs (by omega) _ 4 4 (by omega) (by omega) rfl hb.1 (by omega)
theorem L8{w:E}{v:X}{l:List Int}(hs:BSl w v l)(hl:l.length<=252):AA Ae 196 #[v] w (Qq l w):=by
 obtain⟨ao,cap,rfl,Cm⟩:=hs.shape;obtain⟨M,Oj⟩:∃ M:Nat,M=252:=⟨_,rfl⟩;have pG:(252:Int)=(M:Int):=by omega
 have hby:=hs.1;have IK:=ED hs (w1:=w.alloc (d (A3 M (Y .u8 0)) 5)) (fun p hp=>Df w _ p hp) l.length;rw[B8] at IK;have hf1:=EU l hl;obtain⟨F,hF⟩:=nm (DM l);obtain⟨S,hS⟩:=nm (FB F);have q_:=FY F;rw[<- hS] at q_;have tC:BU l=F ++ BN (FB F) 4:=by rw[hF];rfl
 rw[<- hF] at hf1;obtain⟨N,hN⟩:=nm l.length;rw[<- hN] at hl Cm |-
 have hg2:(w.alloc (d (A3 M (Y .u8 0)) 5)).heap[w.heap.size]? =H (d (AD M (Y .u8 0)).toArray 5 (0,0)):=by
  rw[Aw];simp
 have hcl:(l.map (Y .u8)).length=N:=by rw[Bk,<- hN]
 have hmm:N=Nat.min N M:=(DF (by omega)).symm;have IE:0+(l.map (Y .u8)).length<=(AD M (Y .u8 0)).length:=by rw[Bk,<- hN,Oj];rw[A4];omega
 have HN:=vJ hN;have HMM:=vJ Oj;have HMI:=vJ pG;have ra:M<=200000000000000:=by omega
 have hNM:N<=M:=by omega
 have HG:=vJ hg2;have HC:=vJ hcl;have HM:=vJ hmm;have HF:=vJ IE;have HP:=vJ IK;have HBY:=vJ hby;have HFF:=vJ hF;have HSS:=vJ hS;have HF1:=vJ hf1;have HFS:=vJ tC;have hbl:At w.heap.size w (w.alloc (d (A3 M (Y .u8 0)) 5)):=(AM _ _).alloc (AB _) _;clear hN hg2 hcl hmm IE IK hby hs hF hS hf1 tC Oj pG;go_enter Tryz.func196,Tryz.ntmps196
 go_wp2_with (first
  |(at_make;refine C9 _ rfl _ _ rfl _ M rfl rfl HMI.out ra ?_)
  |(with_reducible refine C8 rfl _ _ 49 49 rfl 5 Tryz.underlying49 (by kernel_rfl) _ _ _ _ _ _ rfl rfl w.heap.size 0 (AD M (Y .u8 0)) 5 HG.out (l.map (Y .u8)) N HC.out HM.out (fun h=>⟨rfl,HP.out h⟩) HF.out (ints_oneCell _ _) ?_
    intro w2 HG3 HW2;have hb2:At w.heap.size w w2:=hbl.trans (HW2.below (AB _));have hob:OB w2 w.heap.size (Ak (H ⟨w.heap.size,0,J⟩) M M) F:=by
     have h3:=HG3.out;have h4:splice (AD M (Y .u8 0)) 0 (l.map (Y .u8))=F.map (Y .u8) ++ []:=by
      rw[HFF.out,DM,HMM.out.symm];simp[splice,<- HN.out]
     rw[h4] at h3;have h5:=OB.of_heap (cap:=M) (rest:=[]) (l:=F) (B:=w.heap.size) (by rw[HFF.out];exact CS HBY.out (CW _)) (AB _) h3 (by rw[HF1.out,HMM.out];rfl) (by rw[HMM.out];decide);rw[HF1.out,<- HMM.out] at h5;exact h5
    clear HG3 HW2)
  |(go_at_call 193;refine(ZP hob.bsl (AM _ _) (by rw[HF1.out];omega) S HSS.out).mono ?_;rintro e w' ⟨rfl,rfl⟩)
  |(go_at_call 158;refine(tr hob.bsl HF1.out S HSS.out).mono ?_;rintro e w3 ⟨v3,rfl,hob3,hb3⟩))
 go_ret2;refine⟨v3,rfl,?_,hb2.trans (hb3.mono hb2.size)⟩;rw[HFS.out];exact hob3.more hb2.size
theorem TP{w:E}{v:X}{l:List Int}(hs:BSl w v l)(hl:l.length<=252):AA Ae 95 #[v] w (Qq l w):=by
 obtain⟨ao,cap,hv,Cm⟩:=hs.shape;have hf1:=EU l hl;obtain⟨F,hF⟩:=nm (DM l);obtain⟨S,hS⟩:=nm (FB F);have q_:=FY F;rw[<- hS] at q_;have tC:BU l=F ++ BN (FB F) 4:=by rw[hF];rfl
 rw[<- hF] at hf1;have hlen:([]:List Int).length+l.length<=140737488355328:=by simp;omega
 obtain⟨N,hN⟩:=nm l.length;rw[<- hN] at hl hv;subst hv;have HN:=vJ hN;have HS:=vJ hs;have HL:=vJ hlen;have HFF:=vJ hF;have HSS:=vJ hS;have HF1:=vJ hf1;have HFS:=vJ tC;have tD:(252:Int)-N=((252-N:Nat):Int):=by omega
 have HSU:=vJ tD;clear hN hs hF hS hf1 tC hlen tD;go_enter Tryz.func95,Tryz.ntmps95
 go_wp2_with (first
  |(at_builtin;(refine BY _ rfl (.tmp 8) (.tmp 9) rfl w.heap.size _ [] rfl (Rm w) w _ l rfl HS.out (fun p hp=>Df w _ p hp) HL.out (by simp) ?_);intro v2 w2 hob2 hb2 _;rw[B0] at hob2
    have hbe:At w.heap.size w w2:=((AM _ _).alloc (AB _) _).trans hb2)
  |(at_builtin;(refine Ev _ rfl (.tmp 10) (.tmp 13) rfl w.heap.size _ l rfl hob2 _ (252-N) rfl HSU.out (by rw[<- HN.out];omega) hbe.size ?_);intro v3 w3 hob3 hb3
    have hbf:At w.heap.size w w3:=hbe.trans hb3;rw[HN.out,show l ++ AD (252-l.length) 0=DM l from rfl,<- HFF.out] at hob3)
  |(go_at_call 141;refine(lw hob3.bsl (by rw[HF1.out];omega)).mono ?_;rw[<- HSS.out];rintro e w' ⟨rfl,rfl⟩)
  |(go_at_call 79;refine(sZ hob3.bsl HF1.out S HSS.out).mono ?_;rintro e w4 ⟨v4,rfl,hob4,hb4⟩))
 go_ret2;refine⟨v4,rfl,?_,hbf.trans (hb4.mono hbf.size)⟩;rw[HFS.out];exact hob4.more hbf.size
theorem BSl.take{w:E}{a:Addr}{cap:Nat}{l:List Int}(h:BSl w (Ak (H a) l.length cap) l)(n:Nat)(hn:n<=l.length):BSl w (Ak (H a) n cap) (l.take n):=by
 refine⟨Ez h.1 n,Ba ⟨a,cap,by rw[AK,DF hn],?_,fun j hj=>?_⟩⟩
 . rcases h.2 with⟨hv,_⟩| ⟨_,_,hv,hc,_⟩
   . simp at hv
   . obtain⟨_,rfl⟩:_/\_:=by simpa using hv
     rw[AK];omega
 . rw[AK,DF hn] at hj
   rcases h.2 with⟨hv,_⟩| ⟨a',c',hv,_,hc⟩
   . simp at hv
   . obtain⟨rfl,rfl⟩:a=a'/\cap=c':=by simpa using hv
     obtain⟨h1,h2,h3⟩:=hc j (by omega);exact⟨h1,h2,by rw[h3];simp[hj]⟩
def mZ(l:List Int)(w:E)(e:Ending)(w':E):Prop:=
 (FG l/\∃ v,e=Ag (AO #[v,A1 AL])/\OB w' w.heap.size v (l.take 252)/\At w.heap.size w w')\/
 (¬ FG l/\e=Ag (AO #[Ak J 0 0,A1 AI])/\At w.heap.size w w')
theorem fL{w:E}{ao:Option Addr}{len cap:Nat}(h:len≠256):
 AA Ae 168 #[Ak ao len cap] w fun e w'=>e=Ag (AO #[Ak J 0 0,A1 AI])/\w=w':=by
 have hne:((len:Int) != 256)=AL:=by simp;omega
 go_enter Tryz.func168,Tryz.ntmps168;go_wp2_with fail
 go_ret2;exact⟨rfl,rfl⟩
theorem pd{w:E}{b off cap:Nat}{l:List Int}(hs:BSl w (Ak (H ⟨b,off,J⟩) 256 cap) l)(hl:l.length=256)(G:Int)(hG:G=Cc l 252 4):
 AA Ae 181 #[Ak (H ⟨b,off,J⟩) 256 cap,Y I 252,Y I 4] w fun e w'=>e=Ag (AO #[Y .u64 G,A1 AL])/\w=w':=by
 rcases hs.2 with⟨hv,_⟩| ⟨a',c',hv,_,hc⟩
 . simp at hv
 . obtain⟨rfl,_,rfl⟩:_/\_/\_:=by simpa using hv
   have:=bJ (w:=w) (b:=b) (off:=off) (cap:=cap) hs.1 (by omega) (fun j hj=>(hc j hj).2.2) 252 4 (by omega) (by omega) (by omega);rw[hl] at this;rw[hG];exact this
theorem iB{w:E}{b off cap:Nat}{l:List Int}(hs:BSl w (Ak (H ⟨b,off,J⟩) 256 cap) l)(hl:l.length=256)(Cm:256<=cap)(hne:Cc l 252 4≠FB (l.take 252)):
 AA Ae 168 #[Ak (H ⟨b,off,J⟩) 256 cap] w fun e w'=>e=Ag (AO #[Ak J 0 0,A1 AI])/\w=w':=by
 have ht:BSl w (Ak (H ⟨b,off,J⟩) 252 cap) (l.take 252):=BSl.take (by rw[hl];exact hs) 252 (by omega);have hbd:=D4 (CZ hs.1) 252 4;have q_:=FY (l.take 252);have lF:(l.take 252).length<=140737488355300:=by rw[AK];omega
 obtain⟨G,hG⟩:=nm (Cc l 252 4);obtain⟨S,hS⟩:=nm (FB (l.take 252));rw[<- hG] at hbd hne;rw[<- hS] at q_ hne;have hne':(G != S)=AL:=by simpa using hne
 have oG:G<4294967296:=by simpa using hbd.2
 have hG0:=hbd.1;have HS:=vJ hs;have HT:=vJ ht;have HG:=vJ hG;have HSS:=vJ hS;have HL:=vJ hl;have HTL:=vJ lF;clear hs ht hG hS hl lF hbd;go_enter Tryz.func168,Tryz.ntmps168
 go_wp2_with (first
  |(go_at_call 181;refine(pd HS.out HL.out G HG.out).mono ?_;rintro e w' ⟨rfl,rfl⟩)
  |(go_at_call 193;refine(ZP HT.out (AM _ _) HTL.out S HSS.out).mono ?_;rintro e w' ⟨rfl,rfl⟩))
 go_ret2;exact⟨rfl,rfl⟩
theorem di{w:E}{b off cap:Nat}{l:List Int}(hs:BSl w (Ak (H ⟨b,off,J⟩) 256 cap) l)(hl:l.length=256)(Cm:256<=cap)(Sg:Cc l 252 4=FB (l.take 252)):
 AA Ae 168 #[Ak (H ⟨b,off,J⟩) 256 cap] w fun e w'=>∃ v,e=Ag (AO #[v,A1 AL])/\OB w' w.heap.size v (l.take 252)/\At w.heap.size w w':=by
 have ht:BSl w (Ak (H ⟨b,off,J⟩) 252 cap) (l.take 252):=BSl.take (by rw[hl];exact hs) 252 (by omega);have q_:=FY (l.take 252);have lF:(l.take 252).length=252:=by rw[AK];omega
 obtain⟨S,hS⟩:=nm (FB (l.take 252));have hG:S=Cc l 252 4:=by rw[hS,Sg]
 rw[<- hS] at q_;obtain⟨M,Oj⟩:∃ M:Nat,M=252:=⟨_,rfl⟩;have pG:(252:Int)=(M:Int):=by omega
 have IK:=ED hs (w1:=w.alloc (d (A3 M (Y .u8 0)) 5)) (fun p hp=>Df w _ p hp) 252;have hg2:(w.alloc (d (A3 M (Y .u8 0)) 5)).heap[w.heap.size]? =H (d (AD M (Y .u8 0)).toArray 5 (0,0)):=by
  rw[Aw];simp
 have hcl:((l.take 252).map (Y .u8)).length=M:=by rw[Bk,lF,Oj]
 have hmm:M=Nat.min 256 M:=(Nat.min_eq_right (by omega)).symm;have IE:0+((l.take 252).map (Y .u8)).length<=(AD M (Y .u8 0)).length:=by rw[Bk,lF,A4];omega
 have hbl:At w.heap.size w (w.alloc (d (A3 M (Y .u8 0)) 5)):=(AM _ _).alloc (AB _) _;have HMM:=vJ Oj;have HMI:=vJ pG;have ra:M<=200000000000000:=by omega
 have HS:=vJ hs;have HT:=vJ ht;have HG:=vJ hG;have HSS:=vJ hS;have HL:=vJ hl;have HTL:=vJ lF;have HP:=vJ IK;have HG2:=vJ hg2;have HC:=vJ hcl;have HM:=vJ hmm;have HF:=vJ IE;clear hs ht hG hS hl lF Sg IK hg2 hcl hmm IE Oj pG;go_enter Tryz.func168,Tryz.ntmps168
 go_wp2_with (first
  |(go_at_call 181;refine(pd HS.out HL.out S HG.out).mono ?_;rintro e w' ⟨rfl,rfl⟩)
  |(go_at_call 193;refine(ZP HT.out (AM _ _) (by rw[HTL.out];omega) S HSS.out).mono ?_;rintro e w' ⟨rfl,rfl⟩)
  |(at_make;refine C9 _ rfl _ _ rfl _ M rfl rfl HMI.out ra ?_)
  |(with_reducible refine C8 rfl _ _ 49 49 rfl 5 Tryz.underlying49 (by kernel_rfl) _ _ _ _ _ _ rfl rfl w.heap.size 0 (AD M (Y .u8 0)) 5 HG2.out ((l.take 252).map (Y .u8)) M HC.out HM.out (fun h=>⟨rfl,HP.out h⟩) HF.out (ints_oneCell _ _) ?_
    intro w2 HG3 HW2))
 go_ret2;refine⟨_,rfl,?_,hbl.trans (HW2.below (AB _))⟩;have h3:=HG3.out;rw[EW _ _ (by rw[HC.out,A4])] at h3;have h5:=OB.of_heap (cap:=M) (rest:=[]) (l:=l.take 252) (B:=w.heap.size) (Ez HS.out.1 _) (AB _) (by rw[BB];exact h3) (by rw[HTL.out,HMM.out];rfl) (by rw[HMM.out];decide);have e:(l.take 252).length=M:=by rw[HTL.out,HMM.out]
 rw[e] at h5;exact h5
theorem Tp{w:E}{v:X}{l:List Int}(hs:BSl w v l):AA Ae 168 #[v] w (mZ l w):=by
 by_cases hl:l.length=256
 . rcases hs.2 with⟨_,rfl⟩| ⟨⟨b,off,spot⟩,cap,rfl,Cm,hc⟩
   . simp at hl
   . obtain rfl:spot=J:=(hc 0 (by omega)).2.1
     rw[hl] at hs Cm |-
     by_cases h:Cc l 252 4=FB (l.take 252)
     . exact(di hs hl Cm h).mono fun e w' ⟨v,h1,h2,h3⟩=>AN ⟨⟨hl,h⟩,v,h1,h2,h3⟩
     . exact(iB hs hl Cm h).mono fun e w' ⟨h1,h2⟩=>Ba ⟨fun hh=>h hh.2,h1,by rw[<- h2];exact AM _ _⟩
 . obtain⟨ao,cap,rfl,_⟩:=hs.shape
   exact(fL hl).mono fun e w' ⟨h1,h2⟩=>Ba ⟨fun hh=>hl hh.1,h1,by rw[<- h2];exact AM _ _⟩
theorem Tl{w:E}{v:X}{l:List Int}(hs:BSl w v l)(h:¬ FG l):AA Ae 168 #[v] w fun e w'=>e=Ag (AO #[Ak J 0 0,A1 AI])/\At w.heap.size w w':=
 (Tp hs).mono fun e w' ho=>ho.elim (fun h1=>absurd h1.1 h) fun h1=>h1.2
theorem Kt{w:E}{v:X}{l:List Int}(hs:BSl w v l)(h:FG l):AA Ae 168 #[v] w fun e w'=>∃ v,e=Ag (AO #[v,A1 AL])/\OB w' w.heap.size v (l.take 252)/\At w.heap.size w w':=
 (Tp hs).mono fun e w' ho=>ho.elim (fun h1=>h1.2) fun h1=>absurd h h1.1
theorem Nt{l:List Int}(h:FG l):(l.take 252).length=252:=by
 have:=h.1;rw[AK];omega
end
section
open Go.RowKit BM
theorem Wt(x:Int)(h0:0<=x)(h1:x<=65535)(w:E):AA Ae 158 #[Ak J 0 0,Y .u64 x,Y I 2] w (JZ w (BN x 2)):=
 FX (IL w) (by simp) x 2 2 (by omega) (by omega) rfl h0 (by omega)
theorem Km(O:List (Int × Int))(k:Nat)(x y:Int)(hx:x=(O.getD k (0,0)).1)(hy:y=(O.getD k (0,0)).2):EG O (k+1)=EG O k ++ BN x 2 ++ BN y 2:=by
 rw[hx,hy];rfl
theorem Yg{w w':E}{row:Option Nat}(h:w.grownBy w' row)(b o:Nat)(hb:b<w.heap.size)(hne:∀ k,row=H k->k≠b):w'.cell? ⟨b,o,J⟩=w.cell? ⟨b,o,J⟩:=by
 apply Bh;exact h.block b hb (fun e=>hne b e.symm rfl)
theorem Rc{w:E}{v:X}{O:List (Int × Int)}(hs:OwSl w v O)(B:Bool)(h:F5 O=B):AA Ae 259 #[v] w fun e w'=>e=Ag (A1 B)/\At w.heap.size w w':=by
 rw[<- h];exact dZ hs
theorem Jt{O:List (Int × Int)}(h:F5 O=AL):O.length=64:=by
 unfold F5 at h;rw[AY] at h;exact A7 h.1
theorem nu(w:E)(M:Nat)(hM:M<=1000):OB (w.alloc (d (A3 M (Y .u8 0)) 5)) w.heap.size (Ak (H ⟨w.heap.size,0,J⟩) 0 M) []:=by
 have h:=OB.of_heap (w:=w.alloc (d (A3 M (Y .u8 0)) 5)) (B:=w.heap.size) (g:=w.heap.size) (cap:=M) (l:=[]) (rest:=AD M (Y .u8 0)) Gq (AB _) (by rw[Aw];simp) (by simp) (by unfold maxLen;omega);exact h
theorem Zo{w:E}{v:X}{O:List (Int × Int)}(hs:OwSl w v O)(h:F5 O=AL):AA Ae 246 #[v] w fun e w'=>∃ v,e=Ag (AO #[v,Y I 0])/\OB w' w.heap.size v (D3 O)/\At w.heap.size w w':=by
 have hO:=Jt h;have HA:=vJ (Rc hs AL h);obtain⟨b,off,cap,rfl,hb,hc⟩:=hs.at (by omega);obtain⟨M,Oj⟩:∃ M:Nat,M=256:=⟨_,rfl⟩;have pG:(256:Int)=(M:Int):=by omega
 have HBB:=vJ hs.1;have HC:=vJ hc;have HO:=vJ hO;have HMI:=vJ pG;have TT:M<=1000:=by omega
 have pH:D3 O=EG O 64:=by unfold D3;rw[hO]
 have HPO:=vJ pH;rw[hO] at HA |-
 clear hs h hc hO Oj pG pH;go_enter Tryz.func246,Tryz.ntmps246
 go_wp2_with (first
  |(go_at_call 259;refine HA.out.mono ?_;rintro e w2 ⟨rfl,hb2⟩)
  |(at_make;refine DC _ rfl _ _ rfl 0 256 0 M rfl rfl rfl HMI.out (AX _) (by omega) ?_))
 have hob3:=nu w2 M TT;have hb3:At w2.heap.size w2 (w2.alloc (d (A3 M (Y .u8 0)) 5)):=Ay _ _;generalize w2.alloc (d (A3 M (Y .u8 0)) 5)=w3 at hob3 hb3 |-
 have O9:At w.heap.size w w3:=hb2.trans (hb3.mono hb2.size);have pI:=hob3.more (B':=w.heap.size) hb2.size;have HOB3:=vJ pI;clear hob3 pI hb3;go_loopw [4,13] (fun u i wr=>∃ k:Nat,k<=64/\i=Y I k/\Hid (OB wr w.heap.size u (EG O k))/\At w.heap.size w wr) (fun _ i _=>64-(intOf i).toNat)
 case atStart=>exact⟨0,by omega,rfl,HOB3,O9⟩
 case round=>
  obtain⟨k,hk,rfl,HOB,hbr⟩:=hrel;clear HOB3 O9;by_cases hlt:k<64
  . have hck:=HC.out k (by rw[HO.out];exact hlt)
    have hbd:=HBB.out k;obtain⟨x,hx⟩:=nm ((O.getD k (0,0)).1);obtain⟨y,hy⟩:=nm ((O.getD k (0,0)).2);rw[<- hx,<- hy] at hck hbd;have c1:=(hbr.cell (p:=⟨b,off+k*2,J⟩) hb).trans hck.1;have c2:=(hbr.cell (p:=⟨b,off+k*2+1,J⟩) hb).trans hck.2;have ek:(k:Int)<64:=(by omega);have HPK:=vJ (Km O k x y hx hy);have HL:=vJ (Fz O k);clear hx hy hck;go_wp2_with fail
    have hbx:=Ay wr (d #[Y .u16 x,Y .u16 y] 165);have Sh:=Aw wr (d #[Y .u16 x,Y .u16 y] 165);generalize wr.alloc (d #[Y .u16 x,Y .u16 y] 165)=W1 at hbx Sh |-
    obtain⟨g,hg⟩:=nm wr.heap.size;rw[<- hg] at Sh |-
    have d1:W1.cell? ⟨g,0,J⟩=H (Y .u16 x):=(by rw[Az _ _ _ _ _ _ Sh];rfl);have d2:W1.cell? ⟨g,1,J⟩=H (Y .u16 y):=(by rw[Az _ _ _ _ _ _ Sh];rfl);have Ok:g<W1.heap.size:=(Al.1 Sh).1;have Vj:=fun k hk=>(HOB.out.2.lt k hk).2
    have HG:=vJ hg;have HU:=vJ Vj;have HB1:=vJ (hbr.trans (hbx.mono hbr.size));have HOB1:=vJ (HOB.out.below hbx);clear hg Vj hbx Sh
    go_wp2_with (first
     |(go_at_call 158;(with_reducible refine(Wt x hbd.1.1 hbd.1.2 _).mono ?_);rintro e w4 ⟨v4,rfl,hob4,hb4⟩
       have e2:w4.cell? ⟨g,1,J⟩=H (Y .u16 y):=(hb4.cell (p:=⟨g,1,J⟩) Ok).trans d2;have hg4:g<w4.heap.size:=AH Ok hb4.size;have HB4:=vJ (HB1.out.trans (hb4.mono HB1.out.size)))
     |(at_builtin
       refine BY w4 rfl (.tmp 17) (.tmp 21) rfl w.heap.size _ (EG O k) rfl (HOB1.out.below hb4) w4 v4 (BN x 2) rfl hob4.bsl (fun _ _=>rfl) (by rw[HL.out,Bc];omega) HB4.out.size ?_;intro v5 w5 hob5 hb5 TU;have f2:w5.cell? ⟨g,1,J⟩=H (Y .u16 y):=(Yg TU g 1 hg4 (fun k hk e=>by have:=HU.out k hk;rw[HG.out] at e;omega)).trans e2;have HB5:=vJ (HB4.out.trans hb5);clear hb5 TU)
     |(go_at_call 158;(with_reducible refine(Wt y hbd.2.1 hbd.2.2 _).mono ?_);rintro e w6 ⟨v6,rfl,hob6,hb6⟩
       have HB6:=vJ (HB5.out.trans (hb6.mono HB5.out.size)))
     |(at_builtin
       refine BY w6 rfl (.tmp 23) (.tmp 27) rfl w.heap.size _ (EG O k ++ BN x 2) rfl (hob5.below hb6) w6 v6 (BN y 2) rfl hob6.bsl (fun _ _=>rfl) (by rw[Ax,HL.out,Bc,Bc];omega) HB6.out.size ?_;intro v7 w7 hob7 hb7 _;have HB7:=vJ (HB6.out.trans hb7);clear hb7))
    go_roundw
    case rel=>exact⟨k+1,by omega,by go_num,by show OB _ _ _ (EG O (k+1));rw[HPK.out];exact hob7,HB7.out⟩
    case measure=>simp[intOf];omega
  . obtain rfl:k=64:=by omega
    go_wp2;go_ret2;exact⟨_,rfl,by rw[HPO.out];exact HOB.out,hbr⟩
def PS(f:Nat->Int × Int)(k:Nat):List (Int × Int):=(Co 64).map fun i=>if i<k then f i else (0,0)
theorem Pp(f:Nat->Int × Int)(k:Nat):(PS f k).length=64:=by simp[PS]
theorem kF(f:Nat->Int × Int)(k:Nat):(PS f k).set k (f k)=PS f (k+1):=by
 apply Bi (by simp[PS]);intro i h1 h2;simp only[PS,Cz,Ct,Cg];by_cases e:k=i
 . subst e;rw[AC rfl,AC (by omega)]
 . rw[AE e]
   by_cases h:i<k
   . rw[AC h,AC (by omega)]
   . rw[AE h,AE (by omega)]
theorem ep(f:Nat->Int × Int):PS f 0=AD 64 (0,0):=by
 rw[List.eq_replicate_iff];refine⟨Pp f 0,fun b hb=>?_⟩;obtain⟨i,_,rfl⟩:=Cq.1 hb;rw[AE (by omega)]
theorem eO(f:Nat->Int × Int):PS f 64=(Co 64).map f:=by
 unfold PS;apply CN;intro i hi;rw[AC (Bo.1 hi)]
theorem ZC(i a:Int)(hi0:0<=i)(hi:i<=65535)(ha0:0<=a)(ha:a<=65535)(w:E):
 AA Ae 93 #[BD #[Y .u16 i,Y .u16 a]] w fun e w'=>e=Ag (A1 (GF i a))/\At w.heap.size w w':=by
 have hob:=Ay w (d #[Y .u16 i,Y .u16 a] 165);obtain⟨B,hB⟩:=nm (GF i a);rw[<- hB];unfold GF at hB;by_cases h0:i=0
 . rw[AC (AN h0)] at hB
   subst h0;cases hd:decide (a=0)
   all_goals
    rw[hd] at hB;have HB:=vJ hB;have tA:(a==0)=_:=hd;clear hB hd;go_enter Tryz.func93,Tryz.ntmps93;go_wp2;go_ret;exact⟨by rw[HB.out];rfl,hob⟩
 . have e0:(i==0)=AI:=by simpa using h0
   by_cases h1:i=65535
   . rw[AC (Ba h1)] at hB
     subst h1;cases hd:decide (a=0)
     all_goals
      rw[hd] at hB;have HB:=vJ hB;have tA:(a==0)=_:=hd;clear hB hd h0;go_enter Tryz.func93,Tryz.ntmps93;go_wp2;go_ret;exact⟨by rw[HB.out];rfl,hob⟩
   . rw[AE (by omega)] at hB
     have e1:(i==65535)=AI:=by simpa using h1
     by_cases h2:i=65534
     . rw[AC h2] at hB
       subst h2;cases hd:decide (a<6)
       all_goals
        rw[hd] at hB;have HB:=vJ hB;clear hB h0 h1;go_enter Tryz.func93,Tryz.ntmps93;go_wp2;go_ret;exact⟨by rw[HB.out];rfl,hob⟩
     . rw[AE h2] at hB
       have e2:(i==65534)=AI:=by simpa using h2
       clear h0 h1 h2;by_cases h3:i<48
       . by_cases h4:a<138
         . have HB:Hid (B=AL):=vJ (by rw[hB];simp[h3,h4])
           clear hB;go_enter Tryz.func93,Tryz.ntmps93;go_wp2;go_ret;exact⟨by rw[HB.out];rfl,hob⟩
         . have tA:(a==65535)=B:=by rw[hB,AF h3,AG h4];rfl
           have hb2:B=AL\/B=AI:=by cases B <;> simp
           clear hB;rcases hb2 with rfl|rfl
           all_goals
            go_enter Tryz.func93,Tryz.ntmps93;go_wp2;go_ret;exact⟨rfl,hob⟩
       . have HB:Hid (B=AI):=vJ (by rw[hB];simp[h3])
         clear hB;go_enter Tryz.func93,Tryz.ntmps93;go_wp2;go_ret;exact⟨by rw[HB.out];rfl,hob⟩
theorem OD(i a:Int)(hi:0<=i/\i<=65535)(ha:0<=a/\a<=65535)(B:Bool)(h:GF i a=B)(w:E):
 AA Ae 93 #[BD #[Y .u16 i,Y .u16 a]] w fun e w'=>e=Ag (A1 B)/\At w.heap.size w w':=by
 rw[<- h];exact ZC i a hi.1 hi.2 ha.1 ha.2 w
theorem ZF{w:E}(ao:Option Addr)(len cap:Nat)(h:len≠64):AA Ae 53 #[Ak ao len cap] w fun e w'=>e=Ag (AO #[Ak J 0 0,Y I 1])/\w=w':=by
 have hne:((len:Int) != 64)=AL:=by simp;omega
 go_enter Tryz.func53,Tryz.ntmps53;go_wp2;go_ret2;exact⟨rfl,rfl⟩
theorem aT{w0 w:E}{u:X}{l:List Int}(hs:BSl w0 u l)(hl:l.length<=1000)(x:Int)(hx0:0<=x)(hx:x<=65535)(hb:At w0.heap.size w0 w):
 AA Ae 79 #[u,Y .u64 x,Y I 2] w fun e w'=>∃ v,e=Ag v/\BSl w' v (l ++ BN x 2)/\At w0.heap.size w0 w':=
 (GO (hs.below hb) (by omega) x 2 2 (by omega) (by omega) rfl hx0 (by omega)).mono fun e w' ⟨v,he,hob,hb2⟩=>⟨v,he,hob.bsl,hb.trans (hb2.mono hb.size)⟩
theorem u64_in(x:Int)(h0:0<=x)(h1:x<18446744073709551616):IntKind.u64.wrap x=x:=by rw[IntKind.wrap_u64];omega
def VH(O:List (Int × Int))(w:E)(e:Ending)(w':E):Prop:=
 (F5 O=AL/\∃ v,e=Ag (AO #[v,Y I 0])/\BSl w' v (D3 O)/\At w.heap.size w w')\/
 (F5 O=AI/\e=Ag (AO #[Ak J 0 0,Y I 1])/\At w.heap.size w w')
theorem fg{w:E}{b off cap:Nat}{O:List (Int × Int)}(hO:O.length=64)(hB:OwB O)(hb:b<w.heap.size)
 (hc:∀ j,j<O.length->w.cell? ⟨b,off+j*2,J⟩=H (Y .u16 (O.getD j (0,0)).1)/\w.cell? ⟨b,off+j*2+1,J⟩=H (Y .u16 (O.getD j (0,0)).2)):
 AA Ae 53 #[Ak (H ⟨b,off,J⟩) 64 cap] w (VH O w):=by
 have HC:=vJ hc;have HO:=vJ hO;have HBB:=vJ hB;have hall:F5 O=JW O 64:=by rw[F5,hO];rfl
 have HA:=vJ hall;have pH:D3 O=EG O 64:=by unfold D3;rw[hO]
 have HPO:=vJ pH;clear hc hO hB hall pH;go_enter Tryz.func53,Tryz.ntmps53;go_wp2;go_loopw [4,11] (fun u i wr=>∃ k:Nat,k<=64/\i=Y I k/\Hid (JW O k=AL)/\Hid (BSl wr u (EG O k))/\At w.heap.size w wr) (fun _ i _=>64-(intOf i).toNat)
 case atStart=>exact⟨0,by omega,rfl,rfl,IL _,AM _ _⟩
 case round=>
  obtain⟨k,hk,rfl,HK,HU,hbr⟩:=hrel;by_cases hlt:k<64
  . have hck:=HC.out k (by rw[HO.out];exact hlt)
    have hbd:=HBB.out k;have hj:OU O k=GF (O.getD k (0,0)).1 (O.getD k (0,0)).2:=rfl;obtain⟨x,hx⟩:=nm ((O.getD k (0,0)).1);obtain⟨y,hy⟩:=nm ((O.getD k (0,0)).2);rw[<- hx,<- hy] at hck hbd hj;have c1:=(hbr.cell (p:=⟨b,off+k*2,J⟩) hb).trans hck.1;have c2:=(hbr.cell (p:=⟨b,off+k*2+1,J⟩) hb).trans hck.2;have ek:(k:Int)<64:=(by omega);have HPK:=vJ (Km O k x y hx hy);have hpl:=Fz O k;have HL1:Hid ((EG O k).length<=1000):=vJ (by omega);have HL2:Hid ((EG O k ++ BN x 2).length<=1000):=vJ (by rw[Ax,Bc];omega);clear hx hy hck hpl;cases hf:GF x y
    . have HF:=vJ hf
      rw[hf] at hj;have HJ:=vJ hj;clear hf hj;go_wp2_with (go_at_call 93;refine(OD x y hbd.1 hbd.2 AI HF.out _).mono ?_;rintro e w2 ⟨rfl,hb2⟩)
      go_ret2;exact Ba ⟨by rw[HA.out,br HJ.out hlt],rfl,hbr.trans (hb2.mono hbr.size)⟩
    . have HF:=vJ hf
      rw[hf] at hj;have HJ:=vJ hj;clear hf hj;go_wp2_with (go_at_call 93;refine(OD x y hbd.1 hbd.2 AL HF.out _).mono ?_;rintro e w2 ⟨rfl,hb2⟩)
      have b0:b<wr.heap.size:=AH hb hbr.size;have b2:b<w2.drew.heap.size:=AH b0 hb2.size;have hbd2:At wr.heap.size wr w2.drew:=hb2.drew;have d1:w2.drew.cell? ⟨b,off+k*2,J⟩=H (Y .u16 x):=(hbd2.cell (p:=⟨b,off+k*2,J⟩) b0).trans c1;have d2:w2.drew.cell? ⟨b,off+k*2+1,J⟩=H (Y .u16 y):=(hbd2.cell (p:=⟨b,off+k*2+1,J⟩) b0).trans c2;have HC1:=vJ (fun W (h:At wr.heap.size wr W)=>(hbr.trans (h.mono hbr.size)));have HX:=vJ (fun W (h:At wr.heap.size wr W)=>And.intro ((h.cell (p:=⟨b,off+k*2,J⟩) b0).trans c1) ((h.cell (p:=⟨b,off+k*2+1,J⟩) b0).trans c2));have HP1:=vJ (fun W (h:At wr.heap.size wr W)=>aT HU.out HL1.out x hbd.1.1 hbd.1.2 h);have pJ:IntKind.u64.wrap x=x:=u64_in x hbd.1.1 (by omega);have hwy:IntKind.u64.wrap y=y:=u64_in y hbd.2.1 (by omega);clear c1 c2 hb2 b2
      go_region_held3 (fun W=>W.cell? ⟨b,off+k*2,J⟩=H (Y .u16 x)/\W.cell? ⟨b,off+k*2+1,J⟩=H (Y .u16 y)) (first|exact⟨f1,f2⟩|exact⟨e1,e2⟩|exact⟨d1,d2⟩) (first
       |(go_at_call 79;(with_reducible refine(HP1.out _ hbd2).mono ?_);rintro e w3 ⟨v3,rfl,hs3,hb3⟩
         obtain⟨e1,e2⟩:=HX.out _ hb3;have HP2:=vJ (fun W (h:At w3.heap.size w3 W)=>aT hs3 HL2.out y hbd.2.1 hbd.2.2 h))
       |(go_at_call 79;(with_reducible refine(HP2.out _ (AM _ _)).mono ?_);rintro e w4 ⟨v4,rfl,hs4,hb4⟩
         obtain⟨f1,f2⟩:=HX.out _ (hb3.trans (hb4.mono hb3.size))))
      go_wp2_with fail
      go_roundw
      case rel=>exact⟨k+1,by omega,by go_num,by show JW O (k+1)=AL;rw[JW,HK.out,HJ.out];rfl,by show BSl _ _ (EG O (k+1));rw[HPK.out];exact hs4,HC1.out _ (hb3.trans (hb4.mono hb3.size))⟩
      case measure=>simp[intOf];omega
  . obtain rfl:k=64:=by omega
    go_wp2;go_ret2;exact AN ⟨by rw[HA.out,HK.out],_,rfl,by rw[HPO.out];exact HU.out,hbr⟩
theorem QN{w:E}{v:X}{O:List (Int × Int)}(hs:OwSl w v O):AA Ae 53 #[v] w (VH O w):=by
 by_cases h:O.length=64
 . obtain⟨b,off,cap,rfl,hb,hc⟩:=hs.at (by omega)
   rw[h];exact fg h hs.1 hb hc
 . obtain⟨ao,cap,rfl⟩:=hs.shape
   refine(ZF ao _ cap h).mono fun e w' ⟨he,hw⟩=>Ba ⟨?_,he,by rw[<- hw];exact AM _ _⟩
   rw[F5,AG h];rfl
theorem bk(w:E)(B:Nat):OwR w B (Ak J 0 0) []:=⟨Ku fun j h=>by simp at h,by simp[FF],AN ⟨rfl,rfl⟩⟩
theorem VG(g:Int)(h1:0<=g)(h2:g<12)(w:E):AA Ae 91 #[Y I g] w fun e w'=>∃ v,e=Ag v/\OwR w' w.heap.size v (F4 g 64)/\At w.heap.size w w':=by
 have h3:g<=11:=by omega
 go_enter Tryz.func91,Tryz.ntmps91;go_wp2;go_loopw [3,12] (fun u i wr=>∃ k:Nat,k<=64/\i=Y I k/\Hid (OwR wr w.heap.size u (F4 g k))/\At w.heap.size w wr) (fun _ i _=>64-(intOf i).toNat)
 case atStart=>exact⟨0,by omega,rfl,bk _ _,AM _ _⟩
 case round=>
  obtain⟨k,hk,rfl,HU,hbr⟩:=hrel;by_cases hlt:k<64
  . have ek:(k:Int)<64:=by omega
    have HS:=vJ (V9 g k);have HL:=vJ (I4 g k);cases hf:CJ (64*g+(k:Int))
    . have HF:=vJ hf
      have hj:ME g k=(0,0):=(by unfold ME;rw[hf];rfl);have HJ:=vJ hj;clear hf hj
      go_wp2_with (first
       |(go_at_call 140;refine(LK _ (by omega) _ HF.out _).mono ?_;rintro e w3 ⟨rfl,rfl⟩)
       |(at_builtin
         refine JA _ 0 0 (by decide) (by decide) rfl (.tmp 22) (.tmp 24) rfl w.heap.size _ (F4 g k) rfl (HU.out.below (by first|exact Ay _ _|exact(Ay _ _).setCell (p:=⟨wr.heap.size,0,J⟩) (AB _) _)) (by rw[HL.out];omega) (by simp;rfl) (by simp;have:=hbr.size;omega) ?_;intro v4 w4 hob4 hb4))
      go_roundw
      case rel=>exact⟨k+1,by omega,by go_num,by show OwR _ _ _ (F4 g (k+1));rw[HS.out,HJ.out];exact hob4,(hbr.trans ((by first|exact Ay _ _|exact(Ay _ _).setCell (p:=⟨wr.heap.size,0,J⟩) (AB _) _:At wr.heap.size wr _).mono hbr.size)).trans hb4⟩
      case measure=>simp[intOf];omega
    . have HF:=vJ hf
      have hj:ME g k=(65535,0):=(by unfold ME;rw[hf];rfl);have HJ:=vJ hj;clear hf hj
      go_wp2_with (first
       |(go_at_call 140;refine(LK _ (by omega) _ HF.out _).mono ?_;rintro e w3 ⟨rfl,rfl⟩)
       |(at_builtin
         refine JA _ 65535 0 (by decide) (by decide) rfl (.tmp 22) (.tmp 24) rfl w.heap.size _ (F4 g k) rfl (HU.out.below (by first|exact Ay _ _|exact(Ay _ _).setCell (p:=⟨wr.heap.size,0,J⟩) (AB _) _)) (by rw[HL.out];omega) (by simp;rfl) (by simp;have:=hbr.size;omega) ?_;intro v4 w4 hob4 hb4))
      go_roundw
      case rel=>exact⟨k+1,by omega,by go_num,by show OwR _ _ _ (F4 g (k+1));rw[HS.out,HJ.out];exact hob4,(hbr.trans ((by first|exact Ay _ _|exact(Ay _ _).setCell (p:=⟨wr.heap.size,0,J⟩) (AB _) _:At wr.heap.size wr _).mono hbr.size)).trans hb4⟩
      case measure=>simp[intOf];omega
  . obtain rfl:k=64:=by omega
    go_wp2;go_ret;exact⟨_,rfl,HU.out,hbr⟩
def Yp(l:List Int):Prop:=l.length=256/\JW (Nn l 64) 64=AL
def iE(l:List Int)(w:E)(e:Ending)(w':E):Prop:=
 (Yp l/\∃ v,e=Ag (AO #[v,Y I 0])/\OwR w' w.heap.size v (Nn l 64)/\At w.heap.size w w')\/
 (¬ Yp l/\e=Ag (AO #[Ak J 0 0,Y I 18])/\At w.heap.size w w')
theorem pj{w:E}{v:X}{c:List Int}(hs:BSl w v c)(hc:c.length<=100000)(a:Nat)(ha:a+2<=c.length)(y:Int)(hy:y=Cc c a 2):AA Ae 181 #[v,Y I (a:Int),Y I 2] w fun e w'=>e=Ag (AO #[Y .u64 y,A1 AL])/\w=w':=by
 have hg:=NO hs (by omega) (a:Int) 2 (by omega) (by omega);have hn:Mg c (a:Int) 2=y:=by unfold Mg;rw[AC (by omega),hy];rfl
 have hb:SB c (a:Int) 2=AL:=AF (by omega);rw[hn,hb] at hg;exact hg
theorem fT{w:E}(ao:Option Addr)(len cap:Nat)(h:len≠256):AA Ae 243 #[Ak ao len cap] w fun e w'=>e=Ag (AO #[Ak J 0 0,Y I 18])/\w=w':=by
 have hne:((len:Int) != 256)=AL:=by simp;omega
 go_enter Tryz.func243,Tryz.ntmps243;go_wp2;go_ret2;exact⟨rfl,rfl⟩
theorem nE(l:List Int):F5 (Nn l 64)=JW (Nn l 64) 64:=by rw[F5,Gb];rfl
theorem gp{w:E}{v:X}{l:List Int}(hs:BSl w v l)(hl:l.length=256):AA Ae 243 #[v] w (iE l w):=by
 obtain⟨ao,cap,rfl,_⟩:=hs.shape;obtain⟨M,Oj⟩:∃ M:Nat,M=64:=⟨_,rfl⟩;have HMI:Hid ((64:Int)=(M:Int)):=vJ (by omega);have TT:M<=1000:=by omega
 have HM:=vJ Oj;have HS:=vJ hs;have HL:=vJ hl;rw[hl] at HS |-
 clear Oj hs hl;go_enter Tryz.func243,Tryz.ntmps243;go_wp2_with (at_make;refine QQ _ rfl _ _ rfl _ M rfl rfl HMI.out (by omega) ?_)
 have hz:(w.alloc (d (FF (AD M (0,0))).toArray 165)).heap[w.heap.size]? =H (d (FF (PS (VX l) 0)).toArray 165 (0,0)):=by
  rw[ep,<- HM.out];exact Aw w _
 have hb2:At w.heap.size w (w.alloc (d (FF (AD M (0,0))).toArray 165)):=Ay _ _;generalize w.alloc (d (FF (AD M (0,0))).toArray 165)=w2 at hz hb2 |-
 have HZ:=vJ hz;clear hz;go_loopw [16] (fun i wr=>∃ k:Nat,k<=64/\i=Y I k/\Hid (wr.heap[w.heap.size]? =H (d (FF (PS (VX l) k)).toArray 165 (0,0)))/\At w.heap.size w wr) (fun i _=>64-(intOf i).toNat)
 case atStart=>exact⟨0,by omega,rfl,HZ,hb2⟩
 case round=>
  obtain⟨k,hk,rfl,HR,hbr⟩:=hrel;clear HZ hb2;by_cases hlt:k<64
  . have ekM:(k:Int)<(M:Int):=by have:=HMI.out;omega
    have ekN:k<M:=(by have:=HM.out;omega);have ek:(k:Int)<64:=(by omega);have hsr:=HS.out.below hbr;have T1:=pj hsr (by rw[HL.out];decide) (4*k) (by rw[HL.out];omega) _ rfl;have T2:=pj hsr (by rw[HL.out];decide) (4*k+2) (by rw[HL.out];omega) _ rfl;have b1:=Nb (CZ hsr.1) (4*k);have b2:=Nb (CZ hsr.1) (4*k+2);have M4:=kF (VX l) k;rw[VX] at M4;obtain⟨x,hx⟩:=nm (Cc l (4*k) 2);obtain⟨y,hy⟩:=nm (Cc l (4*k+2) 2);rw[<- hx] at T1 b1 M4;rw[<- hy] at T2 b2 M4;rw[show((4*k:Nat):Int)=(k:Int)*4 by push_cast;omega] at T1;rw[show((4*k+2:Nat):Int)=(k:Int)*4+2 by push_cast;omega] at T2;have H1:=vJ T1;have H2:=vJ T2;have HPS:=vJ M4;clear T1 T2 hx hy hsr M4;obtain⟨b10,b11⟩:=b1;obtain⟨b20,b21⟩:=b2
    go_wp2_with (first
     |(go_at_call 181;(with_reducible refine H1.out.mono ?_);rintro e w3 ⟨rfl,rfl⟩)
     |(go_at_call 181;(with_reducible refine H2.out.mono ?_);rintro e w3 ⟨rfl,rfl⟩)
     |(with_reducible refine PP rfl (.tmp 41) (.tmp 40) rfl w.heap.size k (PS (VX l) k) x y rfl rfl HR.out (by rw[Pp];exact hlt) ?_;intro w4 hw4 hr4
       rw[HPS.out] at hr4))
    go_roundw
    case rel=>exact⟨k+1,by omega,by go_num,hr4,hbr.trans (hw4.below (AB _))⟩
    case measure=>simp[intOf];omega
  . obtain rfl:k=64:=by omega
    have hkM:¬ (64:Nat)<M:=(by have:=HM.out;omega);have hr:=HR.out;rw[eO] at hr;have rb:=OwR.of_row (B:=w.heap.size) (lD (CZ HS.out.1) 64) (AB _) hr (by rw[Gb];decide);rw[Gb] at rb;have hob:OwR wr w.heap.size (Ak (H ⟨w.heap.size,0,J⟩) M M) (Nn l 64):=(by rw[HM.out];exact rb);clear rb;have HOB:=vJ hob;have ho:=nE l;cases hf:JW (Nn l 64) 64
    all_goals
     rw[hf] at ho;have HF:=vJ hf;have HA:=vJ (Rc hob.sl _ ho);clear hf ho hr
    all_goals clear hob
    . go_wp2_with (go_at_call 259;refine HA.out.mono ?_;rintro e w3 ⟨rfl,hb3⟩)
      go_ret2;exact Ba ⟨(fun h=>by have h2:=h.2;rw[HF.out] at h2;cases h2),rfl,hbr.trans (hb3.mono hbr.size)⟩
    . go_wp2_with (go_at_call 259;refine HA.out.mono ?_;rintro e w3 ⟨rfl,hb3⟩)
      go_ret2;exact AN ⟨⟨HL.out,HF.out⟩,_,rfl,HOB.out.below hb3,hbr.trans (hb3.mono hbr.size)⟩
theorem fZ{w:E}{v:X}{l:List Int}(hs:BSl w v l):AA Ae 243 #[v] w (iE l w):=by
 by_cases h:l.length=256
 . exact gp hs h
 . obtain⟨ao,cap,rfl,_⟩:=hs.shape
   exact(fT ao _ cap h).mono fun e w' ⟨he,hw⟩=>Ba ⟨fun hp=>h hp.1,he,by rw[<- hw];exact AM _ _⟩
theorem pa:(Ae.info? 311).map (·.size)=H 2:=by kernel_rfl
theorem Lm:(Ae.info? 112).map (·.size)=H 2:=by kernel_rfl
theorem vE{p q:X}(hp:p.oneCell'=AL)(hq:q.oneCell'=AL):(#[p,q]:Array X).all (·.oneCell')=AL:=by simp[hp,hq]
theorem Fb{ops:Array BS}{rest:List BS}{o:BS}{a:Act}{w:E}{Q:Exit->Act->E->Prop}(Dn:o.guard=J)(ty:TypeId)(hi:(Ae.info? ty).map (·.size)=H 2)(x y:Operand)(ho:o.op=.store ty x y)
 (g:Nat) (hx:a.eval x=Am (H ⟨g,0,J⟩)) (p q p' q':X) (hy:a.eval y=BD #[p,q]) (hp:p.oneCell'=AL) (hq:q.oneCell'=AL) (T:TypeId) (hg:w.heap[g]? =H (d #[p',q'] T (0,0)))
 (h:∀ w',Wrote w w' g->w'.heap[g]? =H (d #[p,q] T (0,0))->Cn Ae ops Q rest (a.put o.dst undef) w'):Cn Ae ops Q (o :: rest) a w:=
 Do Dn ty x y ho g #[p,q] hx hy T _ hg hi rfl (vE hp hq) (h _ (Wrote.setRow _ _ _) (Cr _ _ _ _ _ _ hg))
theorem Ia{fn:Func}{p u:Tmp}{ty:TypeId}{fs}(h:fn.results=#[.cell p ty,.tmp u])(hu:Ae.underlying ty=H (.struct fs))(hi:(Ae.info? ty).map (·.size)=H 2)
 (tmps:Array X) (w:E) (g:Nat) (T:TypeId) (a b x:X) (hp:tmps.getD p undef=Am (H ⟨g,0,J⟩)) (hg:w.heap[g]? =H (d #[a,b] T (0,0))) (hx:tmps.getD u undef=x):
 (results fn tmps).run Ae w=.ok (AO #[BD #[a,b],x]) w:=by
 rw[results_cell_tmp h,hp,hx];simp only[asAddr,Sem.run_pure,Result.andThen_ok];rw[run_loadVar_row w g T ty _ (0,0) _ hg hu rfl (by rw[hi];rfl)];rfl
theorem BA{w w1:E}{g:Nat}{o:Obj}(h:w.heap[g]? =H o)(hb:At w.heap.size w w1):w1.heap[g]? =H o:=(hb.block _ (Al.1 h).1).trans h
def PL(f:Nat->Bool)(k:Nat):List Bool:=(Co 64).map fun i=>if i<k then f i else AI
theorem Lj(f:Nat->Bool)(k:Nat):(PL f k).length=64:=by simp[PL]
theorem lv(f:Nat->Bool)(k:Nat):(PL f k).set k (f k)=PL f (k+1):=by
 apply Bi (by simp[PL]);intro i h1 h2;simp only[PL,Cz,Ct,Cg];by_cases e:k=i
 . subst e;rw[AC rfl,AC (by omega)]
 . rw[AE e]
   by_cases h:i<k
   . rw[AC h,AC (by omega)]
   . rw[AE h,AE (by omega)]
theorem fc(f:Nat->Bool):PL f 0=AD 64 AI:=by
 rw[List.eq_replicate_iff];refine⟨Lj f 0,fun b hb=>?_⟩;obtain⟨i,_,rfl⟩:=Cq.1 hb;rw[AE (by omega)]
theorem dy(f:Nat->Bool):PL f 64=(Co 64).map f:=by
 unfold PL;apply CN;intro i hi;rw[AC (Bo.1 hi)]
theorem od(w:E):AA Ae 253 #[Y I 64] w fun e w'=>e=Ag (Am (H ⟨w.heap.size+1,0,J⟩))/\BRow w' (w.heap.size+1) w.heap.size (AD 64 AI)/\At w.heap.size w w':=
 (bP 64 64 (by decide) w (by decide)).mono fun _ _ ⟨h1,h2,h3,_⟩=>⟨h1,h2,h3⟩
theorem RS{w:E}{p g:Nat}{L:List Bool}(h:BRow w p g L)(i:Nat)(hi:i<L.length)(on:Bool):
 AA Ae 254 #[Am (H ⟨p,0,J⟩),Y I i,A1 on] w fun e w'=>e=Ag (Y I 0)/\BRow w' p g (L.set i on)/\Wrote w w' g:=
 (i6 h i on).mono fun e w' he=>by rw[AC (by omega),AC (by omega)] at he;exact he
theorem Rk{y:Int}(h:GF 0 y=AL):y=0:=by
 unfold GF at h;rw[AC (AN rfl)] at h;exact A7 h
theorem fG{w:E}{v:X}{O:List (Int × Int)}(hs:OwSl w v O)(g:Int)(hg1:0<=g)(hg2:g<12)(ha:F5 O=AL):
 AA Ae 260 #[Y I g,v] w fun e w'=>∃ p r,e=Ag (AO #[BD #[Y I g,Am (H ⟨p,0,J⟩)],Y I 0])/\BRow w' p r (CQ O 64)/\At w.heap.size w w':=by
 have hb1:=Ay w (d #[Y I 0,Am J] 311);have hr1:=Aw w (d #[Y I 0,Am J] 311);obtain⟨w1,hw1⟩:=nm (w.alloc (d #[Y I 0,Am J] 311));rw[<- hw1] at hb1 hr1;have SG:w.heap.size<w1.heap.size:=by rw[hw1];simp
 have H1:=vJ hw1.symm;have HR1:=vJ hr1;have hs1:=hs.below hb1;have HA:=vJ (Rc hs1 AL ha);have hO:=Jt ha;obtain⟨b,off,cap,rfl,hb,hc⟩:=hs.at (by omega);have Qt:∀ j,j<64->OU O j=AL:=by
  have:JW O 64=AL:=by rw[F5,hO] at ha;simpa using ha
  exact(Nh O 64).1 this
 have HBB:=vJ hs.1;have HC:=vJ hc;have HO:=vJ hO;have HFR:=vJ Qt;rw[hO] at HA |-
 clear hs hs1 hw1 ha hc hO Qt hr1;go_enter Tryz.func260,Tryz.ntmps260
 go_wp2_with (first
  |(go_at_call 265;rw[H1.out];refine(QR g hg1 hg2 _).mono ?_;rintro e w2 ⟨rfl,rfl⟩)
  |(go_at_call 259;refine HA.out.mono ?_;rintro e w2 ⟨rfl,hb2⟩;have hr2:=BA HR1.out hb2)
  |(go_at_call 253;refine(od _).mono ?_;rintro e w3 ⟨rfl,XF,hb3⟩;have hr3:=BA hr2 hb3))
 obtain⟨r,hr⟩:=nm w2.heap.size;rw[<- hr] at XF |-
 obtain⟨p,hp⟩:=nm (r+1);rw[<- hp] at XF |-
 have hwr:w.heap.size<r:=by have:=hb2.size;omega
 have hwp:w.heap.size<p:=by omega
 have hb03:At w.heap.size w w3:=(hb1.trans (hb2.mono hb1.size)).trans (hb3.mono (by omega));rw[<- fc (E8 O)] at XF;have HROW3:=vJ XF;have HR3:=vJ hr3;clear hr hp XF hr3 hr2 hb3 hb2;go_loopw [21] (fun i wr=>∃ k:Nat,k<=64/\i=Y I k/\Hid (BRow wr p r (PL (E8 O) k))/\Hid (wr.heap[w.heap.size]? =H (d #[Y I 0,Am J] 311 (0,0)))/\At w.heap.size w wr) (fun i _=>64-(intOf i).toNat)
 case atStart=>exact⟨0,by omega,rfl,HROW3,HR3,hb03⟩
 case round=>
  obtain⟨k,hk,rfl,HROW,HRC,hbr⟩:=hrel;clear HROW3 HR3 hb03;by_cases hlt:k<64
  . have hck:=HC.out k (by rw[HO.out];exact hlt)
    have hbd:=HBB.out k;have oH:=HFR.out k hlt;have pK:E8 O k=decide ((O.getD k (0,0)).1≠0):=rfl;rw[OU] at oH;obtain⟨x,hx⟩:=nm ((O.getD k (0,0)).1);obtain⟨y,hy⟩:=nm ((O.getD k (0,0)).2);rw[<- hx,<- hy] at hck hbd oH;rw[<- hx] at pK;have c1:=(hbr.cell (p:=⟨b,off+k*2,J⟩) hb).trans hck.1;have c2:=(hbr.cell (p:=⟨b,off+k*2+1,J⟩) hb).trans hck.2;have ek:(k:Int)<64:=(by omega);have M4:=lv (E8 O) k;rw[pK] at M4;have HRL:=HROW.out.lt;clear hx hy hck pK;by_cases h0:x=0
    . subst h0
      obtain rfl:=Rk oH;have HPS:=vJ M4;have HSET:=vJ (RS (HROW.out.below (Ay wr (d #[Y .u16 0,Y .u16 0] 165)) HRL.1 HRL.2) k (by rw[Lj];exact hlt) AI);clear oH M4;go_wp2_with (go_at_call 254;refine HSET.out.mono ?_;rintro e w4 ⟨rfl,XG,hw4⟩)
      go_roundw
      case rel=>exact⟨k+1,by omega,by go_num,by show BRow _ _ _ (PL (E8 O) (k+1));rw[<- HPS.out];exact XG,by show w4.heap[w.heap.size]? =_;rw[hw4.2.2.2.2 _ (by omega)];exact BA HRC.out (Ay _ _),(hbr.trans ((Ay _ _).mono hbr.size)).trans (hw4.below (by omega))⟩
      case measure=>simp[intOf];omega
    . have hx0:(x==0)=AI:=by simpa using h0
      rw[AF h0] at M4;have HPS:=vJ M4;have HSET:=vJ (RS (HROW.out.below (Ay wr (d #[Y .u16 x,Y .u16 y] 165)) HRL.1 HRL.2) k (by rw[Lj];exact hlt) AL);clear oH M4 h0;go_wp2_with (go_at_call 254;refine HSET.out.mono ?_;rintro e w4 ⟨rfl,XG,hw4⟩)
      go_roundw
      case rel=>exact⟨k+1,by omega,by go_num,by show BRow _ _ _ (PL (E8 O) (k+1));rw[<- HPS.out];exact XG,by show w4.heap[w.heap.size]? =_;rw[hw4.2.2.2.2 _ (by omega)];exact BA HRC.out (Ay _ _),(hbr.trans ((Ay _ _).mono hbr.size)).trans (hw4.below (by omega))⟩
      case measure=>simp[intOf];omega
  . obtain rfl:k=64:=by omega
    have hrc:=HRC.out;have HRL:=HROW.out.lt;go_wp2_with (with_reducible refine Fb rfl 311 pa (.tmp 4) (.tmp 35) rfl w.heap.size rfl _ _ _ _ rfl rfl rfl _ hrc ?_;intro w5 hw5 E3)
    refine Bv (Ia rfl Tryz.underlying311 pa _ _ w.heap.size _ _ _ _ rfl E3 rfl) rfl ⟨p,r,rfl,?_,hbr.trans (hw5.below (AB _))⟩;have hrow:=HROW.out;rw[dy] at hrow;exact hrow.of_heap (hw5.2.2.2.2 _ (by omega)) (hw5.2.2.2.2 _ (by omega))
theorem gy:(Ae.info? 4).map (fun i=>(i.zero,i.size,i.bytes))=H (H (A1 AI),1,1):=by kernel_rfl
def Rx(w:E)(l:List Int)(e:Ending)(w':E):Prop:=
 ∃ v,e=Ag v/\BSl w' v l/\At w.heap.size w w'
theorem aR{w:E}{g:Nat}{l:List Int}(hb:∀ j,0<=l.getD j 0/\l.getD j 0<=255)(hg:w.heap[g]? =H (d (l.map (Y .u8)).toArray 5 (0,0)))(c:Nat)(hcl:l.length<=c):
 BSl w (Ak (H ⟨g,0,J⟩) l.length c) l:=by
 refine⟨hb,Ba ⟨_,c,rfl,hcl,fun j hj=>⟨(Al.1 hg).1,rfl,?_⟩⟩⟩;show w.cell? ⟨g,0+j,J⟩=_
 rw[Bm,Az _ _ _ _ _ _ hg];simp[hj]
theorem iS{w:E}{p g:Nat}{L:List Bool}(h:BRow w p g L):
 AA Ae 266 #[Am (H ⟨p,0,J⟩)] w fun e w'=>∃ l,Rep l L/\Rx w l e w':=by
 have hn:=h.1;have hlt:=h.lt;obtain⟨l,hr,hc,hs,hx,hf,hg⟩:=h.cells;have hlen:=hr.len;obtain⟨N,hN⟩:=nm l.length;rw[<- hN] at hs hx;have hNN:N<=600:=by omega
 have HN:=vJ hN;have HX:=vJ hx;have hbl:At w.heap.size w (w.alloc (d (A3 N (Y .u8 0)) 5)):=(AM _ _).alloc (AB _) _;have hg2:(w.alloc (d (A3 N (Y .u8 0)) 5)).heap[w.heap.size]? =H (d (AD N (Y .u8 0)).toArray 5 (0,0)):=by
  rw[Aw];simp
 have hcl:(l.map (Y .u8)).length=N:=by rw[Bk,<- hN]
 have hmm:N=Nat.min N N:=by simp
 have IE:0+(l.map (Y .u8)).length<=(AD N (Y .u8 0)).length:=by rw[Bk,<- hN];simp
 have Vi:0<(l.map (Y .u8)).length->H (⟨w.heap.size,0,J⟩:Addr)=H ⟨w.heap.size,0,J⟩/\∃ ad,H (⟨g,0,J⟩:Addr)=H ad/\∀ j v,(l.map (Y .u8))[j]? =H v->(w.alloc (d (A3 N (Y .u8 0)) 5)).cell? (ad.add j)=H v:=fun _=>by
  refine⟨rfl,_,rfl,fun j v hj=>?_⟩;have MY:j<l.length:=by simpa using (Bj.1 hj).1
  rw[Cb,Bm,hbl.cell (by exact hlt.2),hx j (by omega),<- hj];simp[MY]
 have HG2:=vJ hg2;have HC:=vJ hcl;have HM:=vJ hmm;have HF:=vJ IE;have HS:=vJ Vi;have HL:=vJ hlen;have hs1:(w.alloc (d (A3 N (Y .u8 0)) 5)).cell? ⟨p,1,J⟩=H (Ak (H ⟨g,0,J⟩) N N):=by rw[hbl.cell (by exact hlt.1)];exact hs
 clear hN hx hg2 hcl hmm IE Vi hf hg hlen;go_enter Tryz.func266,Tryz.ntmps266
 go_wp2_with (first
  |(at_make;refine C9 _ rfl _ _ rfl _ N rfl rfl rfl (by omega) ?_)
  |(with_reducible refine C8 rfl _ _ 49 49 rfl 5 Tryz.underlying49 (by kernel_rfl) _ _ _ _ _ _ rfl rfl w.heap.size 0 (AD N (Y .u8 0)) 5 HG2.out (l.map (Y .u8)) N HC.out HM.out HS.out HF.out (ints_oneCell _ _) ?_;intro w2 HG3 HW2))
 go_ret;refine⟨l,hr,_,rfl,?_,hbl.trans (HW2.below (AB _))⟩;have h3:=HG3.out;rw[EW _ _ (by rw[HC.out];simp)] at h3;rw[HN.out];exact aR hr.byte h3 _ (by omega)
theorem ZV{w:E}{p g:Nat}{L:List Bool}(h:BRow w p g L)(l:List Int)(hr:Rep l L):
 AA Ae 266 #[Am (H ⟨p,0,J⟩)] w (Rx w l):=
 (iS h).mono fun e w' ⟨m,hm,hN⟩=>by rw[Uu hr hm];exact hN
def OQ(L:List Bool)(k:Nat):List Bool:=L.take k ++ AD (L.length-k) AI
theorem IX(L:List Bool)(k:Nat)(hk:k<=L.length):(OQ L k).length=L.length:=by simp[OQ];omega
theorem OY(L:List Bool)(k j:Nat):(OQ L k).getD j AI=if j<k then L.getD j AI else AI:=by
 unfold OQ;simp only[An];by_cases h:j<k
 . rw[AC h]
   by_cases h2:j<L.length
   . rw[BT (by simp;omega),AZ,AC h]
   . rw[A5 (l:=L) (by omega),A5 (by simp;omega)]
 . rw[AE h,List.getElem?_append]
   split
   . rename_i h2;simp at h2;omega
   . rw[BF];split <;> rfl
theorem dQ(L:List Bool):OQ L 0=AD L.length AI:=by simp[OQ]
theorem jV(L:List Bool)(k:Nat)(h:L.length<=k):OQ L k=L:=by simp[OQ,AV h,show L.length-k=0 by omega]
theorem Sp{A B:List Bool}(hl:A.length=B.length)(h:∀ j,A.getD j AI=B.getD j AI):A=B:=by
 apply Bi hl;intro j h1 h2;have:=h j
 simpa [h1,h2] using this
theorem SZ(L:List Bool)(k:Nat)(hk:k<L.length)(b:Bool)(hb:L.getD k AI=b):OQ L (k+1)=if b then (OQ L k).set k AL else OQ L k:=by
 apply Sp
 . cases b <;> simp[IX,BO hk,Nat.succ_le_of_lt hk]
 . intro j
   rw[OY];cases b
   . simp only[Bool.false_eq_true,if_false,OY]
     by_cases h1:j<k
     . rw[AC h1,AC (by omega)]
     . rw[AE h1]
       by_cases e:j=k
       . rw[e,AC (by omega),hb]
       . rw[AE (by omega)]
   . simp only[if_true]
     rw[getD_set _ _ _ _ _ (by rw[IX _ _ (by omega)];exact hk),OY];by_cases e:j=k
     . rw[AC e,e,AC (by omega),hb]
     . rw[AE e]
       by_cases h1:j<k
       . rw[AC h1,AC (by omega)]
       . rw[AE h1,AE (by omega)]
theorem ox(x:Int)(k:Nat)(hk:k<8)(h0:0<=x)(h1:x<=255):bits BinOp.or IntKind.u8 x (2 ^ k%256)=if Eg x k then x else x+2 ^ k:=by
 have e:(2:Int) ^ k%256=IntKind.u64.wrap (2 ^ k)%256:=by
  have h:k=0\/k=1\/k=2\/k=3\/k=4\/k=5\/k=6\/k=7:=by omega
  rcases h with rfl|rfl|rfl|rfl|rfl|rfl|rfl|rfl <;> decide
 rw[e,jX x k hk h0 h1]
end
section
open Go.RowKit Go.ChangeShapes Go.WideShapes
def KSl(w:E)(v:X)(k:List Bool):Prop:=
 (v=Ak J 0 0/\k=[])\/∃ a cap,v=Ak (H a) k.length cap/\∀ j,j<k.length->a.block<w.heap.size/\a.spot=J/\w.cell? ⟨a.block,a.off+j,J⟩=H (A1 (k.getD j AI))
theorem KSl.below{w w':E}{v:X}{k:List Bool}(h:KSl w v k)(hb:At w.heap.size w w'):KSl w' v k:=by
 rcases h with h| ⟨a,cap,hv,hc⟩
 . exact AN h
 . refine Ba ⟨a,cap,hv,fun j hj=>?_⟩
   obtain⟨h1,h2,h3⟩:=hc j hj;exact⟨AH h1 hb.size,h2,by rw[hb.cell (p:=⟨a.block,a.off+j,J⟩) h1,h3]⟩
theorem KSl.shape{w:E}{v:X}{k:List Bool}(h:KSl w v k):∃ ao cap,v=Ak ao k.length cap:=by
 rcases h with⟨hv,hk⟩| ⟨a,cap,hv,_⟩
 . exact⟨J,0,by rw[hv,hk];rfl⟩
 . exact⟨H a,cap,hv⟩
end
section
open Go.RowKit BM
def KR(w:E)(B:Nat)(v:X)(L:List Bool):Prop:=w.ownsRow B 4 1 v L.length (L.map X.bool)
theorem KR.more{w:E}{B B':Nat}{v:X}{L:List Bool}(h:KR w B v L)(hB:B'<=B):KR w B' v L:=by
 refine⟨h.1,?_⟩;rcases h.2 with h| ⟨g,cap,cur,hv,hg,r⟩
 . exact AN h
 . exact Ba ⟨g,cap,cur,hv,AT hB hg,r⟩
theorem qT(w:E)(B:Nat):KR w B (Ak J 0 0) []:=⟨by simp,AN ⟨rfl,rfl⟩⟩
theorem KR.ksl{w:E}{B:Nat}{v:X}{L:List Bool}(h:KR w B v L):KSl w v L:=by
 rcases h.2 with⟨hv,hl⟩| ⟨g,cap,cur,hv,hg,hh,Hn,LD,Hb,ht⟩
 . exact AN ⟨hv,Bb hl⟩
 . refine Ba ⟨_,cap,hv,fun j hj=>⟨(Al.1 hh).1,rfl,?_⟩⟩
   show w.cell? ⟨g,0+j,J⟩=_
   rw[Bm,Az _ _ _ _ _ _ hh];have:(cur.toList.take (L.length*1))[j]? =(L.map X.bool)[j]? :=(by rw[ht]);rw[AZ,AC (by omega)] at this
   simpa [hj] using this
theorem jx{w:E}{p:Nat}{v:X}{L:List Bool}(hp:w.cell? ⟨p,0,J⟩=H v)(hk:KSl w v L)(hn:L.length<=4096):
 AA Ae 94 #[Am (H ⟨p,0,J⟩)] w fun e w'=>e=Ag (Y I (Eo L))/\w=w':=by
 rcases hk with⟨rfl,rfl⟩| ⟨⟨g,off,spot⟩,cap,rfl,hc⟩
 . go_enter Tryz.func94,Tryz.ntmps94
   go_wp2;refine wp_loop_rounds 1 ?_;rw[rounds_succ];go_wp2;go_ret;exact⟨rfl,rfl⟩
 . have hx:∀ j,j<L.length->w.cell? ⟨g,off+j,J⟩=H (A1 (L.getD j AI)):=fun j hj=>by
    obtain⟨_,h2,h3⟩:=hc j hj;exact h3
   have XD:0<L.length->spot=J:=fun h=>(hc 0 h).2.1
   clear hc;have HX:=vJ hx;have HSP:=vJ XD;clear hx XD;go_enter Tryz.func94,Tryz.ntmps94;go_wp2_with fail
   go_loop [3,10] (fun c i=>∃ k:Nat,k<=L.length/\i=Y I k/\c=Y I (Eo (L.take k))) (fun _ i=>L.length-(intOf i).toNat)
   case atStart=>exact⟨0,by omega,rfl,rfl⟩
   case round=>
    obtain⟨k,hk,rfl,rfl⟩:=hrel;have Mi:=Lp L k;obtain⟨C,hC⟩:=nm (Eo (L.take k));rw[<- hC] at Mi |-
    by_cases hlt:k<L.length
    . obtain rfl:spot=J:=HSP.out (by omega)
      have JF:=Pz hlt;have hc:=HX.out k hlt;cases hb:L.getD k AI
      . rw[hb,AE (by decide),<- hC] at JF
        rw[hb] at hc;have HS:=vJ JF;clear hb JF hC;go_wp2_with fail
        go_round
        case rel=>exact⟨k+1,by omega,by go_num,by rw[HS.out];go_num⟩
        case measure=>simp[intOf];omega
      . rw[hb,AC rfl,<- hC] at JF
        rw[hb] at hc;have HS:=vJ JF;clear hb JF hC;go_wp2_with fail
        go_round
        case rel=>exact⟨k+1,by omega,by go_num,by rw[HS.out];go_num⟩
        case measure=>simp[intOf];omega
    . have HC:=vJ hC
      clear hC;go_wp2_with fail
      go_ret;exact⟨JN (by rw[HC.out,AV (by omega)]),rfl⟩
theorem KSl.open'{w:E}{v:X}{L:List Bool}(h:KSl w v L):∃ ao cap,v=Ak ao L.length cap/\(0<L.length->∃ g off,ao=H ⟨g,off,J⟩/\g<w.heap.size/\∀ j,j<L.length->w.cell? ⟨g,off+j,J⟩=H (A1 (L.getD j AI))):=by
 rcases h with⟨rfl,rfl⟩| ⟨⟨g,off,spot⟩,cap,rfl,hc⟩
 . exact⟨J,0,rfl,fun h=>by simp at h⟩
 . refine⟨_,cap,rfl,fun h0=>?_⟩
   obtain⟨h1,h2,_⟩:=hc 0 h0;obtain rfl:spot=J:=h2;exact⟨g,off,rfl,h1,fun j hj=>(hc j hj).2.2⟩
theorem kx{w:E}{p:Nat}{v:X}{L:List Bool}(hp:w.cell? ⟨p,0,J⟩=H v)(hpl:p<w.heap.size)(hk:KSl w v L)(hn:L.length<=4096)(l:List Int)(hr:Rep l L):
 AA Ae 96 #[Am (H ⟨p,0,J⟩)] w (Rx w l):=by
 have hlen:=hr.len;obtain⟨ao,cap,rfl,hx⟩:=hk.open';obtain⟨N,hN⟩:=nm l.length;rw[<- hN] at hlen;have e8:((L.length:Int)+7) / 8=(N:Int):=by omega
 have hNN:N<=600:=by omega
 have HN:=vJ hN;have HX:=vJ hx;have HE:=vJ e8;have HL:=vJ hlen;have hbl:At w.heap.size w (w.alloc (d (A3 N (Y .u8 0)) 5)):=(AM _ _).alloc (AB _) _;have hs1:(w.alloc (d (A3 N (Y .u8 0)) 5)).cell? ⟨p,0,J⟩=H (Ak ao L.length cap):=by rw[hbl.cell (by exact hpl)];exact hp
 clear hN hx e8 hlen hk;go_enter Tryz.func96,Tryz.ntmps96;go_wp2_with (at_make;refine C9 _ rfl _ _ rfl _ N rfl rfl HE.out (by omega) ?_)
 go_loopw [18] (fun i wr=>∃ (k:Nat) (m:List Int),k<=L.length/\i=Y I k/\Hid (Rep m (OQ L k))/\Hid (wr.heap[w.heap.size]? =H (d (m.map (Y .u8)).toArray 5 (0,0)))/\At w.heap.size w wr)
  (fun i _=>L.length-(intOf i).toNat)
 case atStart=>
  refine⟨0,AD ((L.length+7) / 8) 0,by omega,rfl,?_,?_,hbl⟩
  . rw[dQ];exact bG L.length
  . rw[Aw,<- HL.out];simp[Hid]
 case round=>
  obtain⟨k,m,hk,rfl,hrep,hgm,hbr⟩:=hrel;have ik:=hrep.out.len;rw[IX L k hk,<- HL.out] at ik;have HML:=vJ ik;clear ik;have hp:=(hbr.cell (p:=⟨p,0,J⟩) hpl).trans hp;by_cases Od:k<L.length
  . obtain⟨g,off,rfl,Ok,Sl⟩:=HX.out (by omega)
    have hkN:k / 8<N:=(by have:=HL.out;omega);have hkN':(k:Int) / 8<(N:Int):=(by omega);have l7:=(hbr.cell (p:=⟨g,off+k,J⟩) Ok).trans (Sl k Od);clear Sl;cases hb:L.getD k AI
    . rw[hb] at l7
      have HP:=vJ (SZ L k Od AI hb);clear hb;go_wp2_with fail
      go_roundw
      case rel=>
       refine⟨k+1,m,by omega,by go_num,?_,hgm,hbr⟩;have:=HP.out;rw[AE (by decide)] at this;rw[this];exact hrep
      case measure=>simp[intOf];omega
    . rw[hb] at l7
      have HP:=vJ (SZ L k Od AL hb);have hxb:=hrep.out.byte (k / 8);obtain⟨x,hx⟩:=nm (m.getD (k / 8) 0);have Oc:wr.cell? ⟨w.heap.size,k / 8,J⟩=H (Y .u8 x):=by
       rw[Az _ _ _ _ _ _ hgm.out,hx];simp[HML.out,hkN]
      have IF:wr.frozen? ⟨w.heap.size,k / 8,J⟩=AI:=frozen_of_row _ _ _ _ _ hgm.out;rw[<- hx] at hxb;have HXX:=vJ hx;clear hb hx;go_wp2_with fail
      go_region
      go_wp2_with fail
      go_roundw
      case rel=>
       have pF:k%8<8:=Gl _ (by omega);have hpl:k<(OQ L k).length:=(by rw[IX L k hk];exact Od);have hset:=a_ hrep.out k AL hpl (bits BinOp.or IntKind.u8 x (2 ^ (k%8)%256)) (by rw[ox x _ pF hxb.1 hxb.2,<- HXX.out];rfl);have hP:=HP.out;rw[AC trivial] at hP;refine⟨k+1,_,by omega,by go_num,by rw[hP];exact hset,?_,?_⟩
       . show(wr.setCell _ _).heap[w.heap.size]? =_
         rw[Bs _ _ _ _ _ _ hgm.out,List.map_set];simp
       . exact(hbr.setCell (p:=⟨w.heap.size,k / 8,J⟩) (AB _) _).drew
      case measure=>simp[intOf];omega
  . go_wp2_with fail
    go_ret;have hr2:=hrep.out;rw[jV L k (by omega)] at hr2;obtain rfl:m=l:=Uu hr2 hr;exact⟨_,rfl,by rw[HN.out];exact aR hr.byte hgm.out _ (by first|omega|exact AB _),hbr⟩
theorem Tq{w:E}{v:X}{O:List (Int × Int)}(hs:OwSl w v O)(h:F5 O=AL):AA Ae 53 #[v] w fun e w'=>∃ v,e=Ag (AO #[v,Y I 0])/\BSl w' v (D3 O)/\At w.heap.size w w':=
 (QN hs).mono fun e w' ho=>ho.elim (fun h1=>h1.2) fun h1=>by rw[h] at h1;cases h1.1
theorem Ye{w:E}{v:X}{O:List (Int × Int)}(hs:OwSl w v O)(h:F5 O=AI):AA Ae 53 #[v] w fun e w'=>e=Ag (AO #[Ak J 0 0,Y I 1])/\At w.heap.size w w':=
 (QN hs).mono fun e w' ho=>ho.elim (fun h1=>by rw[h] at h1;cases h1.1) fun h1=>h1.2
theorem tp{w:E}{v:X}{O:List (Int × Int)}(hs:OwSl w v O)(g:Int)(h:¬ ((0<=g/\g<12)/\F5 O=AL)):
 AA Ae 54 #[Y I g,v] w fun e w'=>e=Ag (AO #[BD #[Y I 0,Ak J 0 0],Y I 1])/\At w.heap.size w w':=by
 have hb1:=Ay w (d #[Y I 0,Ak J 0 0] 112);have hr1:=Aw w (d #[Y I 0,Ak J 0 0] 112);obtain⟨w1,hw1⟩:=nm (w.alloc (d #[Y I 0,Ak J 0 0] 112));rw[<- hw1] at hb1 hr1;have H1:=vJ hw1.symm;have HR1:=vJ hr1;have hs1:=hs.below hb1;cases ha:F5 O
 . have HA:=vJ (Ye hs1 ha)
   clear hs hs1 h ha hw1 hr1;by_cases g0:g<0
   all_goals (try (by_cases g1:11<g))
   all_goals
    go_enter Tryz.func54,Tryz.ntmps54
    go_wp2_with (first
     |(go_at_call 53;rw[H1.out];refine HA.out.mono ?_;rintro e w2 ⟨rfl,hb2⟩;have hr2:=BA HR1.out hb2)
     |(with_reducible refine Fb rfl 112 Lm (.tmp 4) (.tmp 25) rfl w.heap.size rfl _ _ _ _ rfl rfl rfl _ hr2 ?_;intro w3 hw3 hr3))
    exact Bv (Ia rfl Tryz.underlying112 Lm _ _ w.heap.size _ _ _ _ rfl hr3 rfl) rfl ⟨rfl,(hb1.trans (hb2.mono hb1.size)).trans (hw3.below (AB _))⟩
 . have HA:=vJ (Tq hs1 ha)
   have hg:g<0\/11<g:=by
    by_cases g0:0<=g/\g<12
    . exact absurd ⟨g0,ha⟩ h
    . omega
   clear hs hs1 h ha hw1 hr1;by_cases g0:g<0
   . clear hg
     go_enter Tryz.func54,Tryz.ntmps54
     go_wp2_with (first
      |(go_at_call 53;rw[H1.out];refine HA.out.mono ?_;rintro e w2 ⟨v2,rfl,hs2,hb2⟩;have hr2:=BA HR1.out hb2)
      |(with_reducible refine Fb rfl 112 Lm (.tmp 4) (.tmp 25) rfl w.heap.size rfl _ _ _ _ rfl rfl rfl _ hr2 ?_;intro w3 hw3 hr3))
     exact Bv (Ia rfl Tryz.underlying112 Lm _ _ w.heap.size _ _ _ _ rfl hr3 rfl) rfl ⟨rfl,(hb1.trans (hb2.mono hb1.size)).trans (hw3.below (AB _))⟩
   . have g1:11<g:=by omega
     clear hg;go_enter Tryz.func54,Tryz.ntmps54
     go_wp2_with (first
      |(go_at_call 53;rw[H1.out];refine HA.out.mono ?_;rintro e w2 ⟨v2,rfl,hs2,hb2⟩;have hr2:=BA HR1.out hb2)
      |(with_reducible refine Fb rfl 112 Lm (.tmp 4) (.tmp 25) rfl w.heap.size rfl _ _ _ _ rfl rfl rfl _ hr2 ?_;intro w3 hw3 hr3))
     exact Bv (Ia rfl Tryz.underlying112 Lm _ _ w.heap.size _ _ _ _ rfl hr3 rfl) rfl ⟨rfl,(hb1.trans (hb2.mono hb1.size)).trans (hw3.below (AB _))⟩
theorem KR.wrote{w w':E}{B g:Nat}{v:X}{L:List Bool}(h:KR w B v L)(hw:Wrote w w' g)(hne:∀ m,v.ownBlock=H m->m≠g):KR w' B v L:=by
 refine⟨h.1,?_⟩;rcases h.2 with h| ⟨k,cap,cur,hv,hg,hh,r⟩
 . exact AN h
 . exact Ba ⟨k,cap,cur,hv,hg,by rw[hw.2.2.2.2 k (hne k (by rw[hv];rfl))];exact hh,r⟩
theorem dK{w wr w3:E}{gd gg cap:Nat}{g:Int}{vL:X}{L:List Bool}{ub:Bool}{T:TypeId}{Z:Obj}(hd:wr.heap[gd]? =H (d #[Y I g,vL] T (0,0)))(hkr:KR wr (gd+1) vL L)
 (hz:wr.heap[w.heap.size]? =H Z) (hwd:w.heap.size<gd) (hb:At w.heap.size w wr) (hgrow:((wr.alloc (d #[A1 ub] 4)).drew).grownBy w3 vL.ownBlock)
 (hown:w3.ownsRow (gd+1) 4 1 (Ak (H ⟨gg,0,J⟩) (L.length+1) cap) (L.length+1) (L.map X.bool ++ [A1 ub])):
 (w3.setCell ⟨gd,1,J⟩ (Ak (H ⟨gg,0,J⟩) (L.length+1) cap)).heap[gd]? =H (d #[Y I g,Ak (H ⟨gg,0,J⟩) (L.length+1) cap] T (0,0))/\
 KR (w3.setCell ⟨gd,1,J⟩ (Ak (H ⟨gg,0,J⟩) (L.length+1) cap)) (gd+1) (Ak (H ⟨gg,0,J⟩) (L.length+1) cap) (L ++ [ub])/\
 (w3.setCell ⟨gd,1,J⟩ (Ak (H ⟨gg,0,J⟩) (L.length+1) cap)).heap[w.heap.size]? =H Z/\At w.heap.size w (w3.setCell ⟨gd,1,J⟩ (Ak (H ⟨gg,0,J⟩) (L.length+1) cap)):=by
 have Vk:gd<wr.heap.size:=(Al.1 hd).1;have Vj:∀ m,vL.ownBlock=H m->gd+1<=m:=fun m hm=>(Ck hkr m hm).1
 have hbx:At wr.heap.size wr (wr.alloc (d #[A1 ub] 4)).drew:=(Ay _ _).drew;have old:∀ k,k<=gd->w3.heap[k]? =wr.heap[k]? :=fun k hk=>by
  rw[hgrow.block k (by simp;omega) (fun e=>by have:=Vj k e.symm;omega)];exact hbx.block k (by omega)
 refine⟨?_,?_,?_,?_⟩
 . rw[Bs w3 gd 1 _ _ _ ((old gd (AB _)).trans hd)];rfl
 . rcases hown.2 with⟨hv,_⟩| ⟨g',cap',cur,hv,hg,hh,r⟩
   . simp at hv
   . obtain⟨rfl,rfl⟩:gg=g'/\cap=cap':=by simpa using hv
     have e:(L ++ [ub]).length=L.length+1:=(by simp);rw[KR,e,Cv];exact⟨hown.1,Ba ⟨gg,cap,cur,rfl,hg,by rw[Bq w3 ⟨gd,1,J⟩ gg _ (show gg≠gd by omega)];exact hh,r⟩⟩
 . rw[Bq w3 ⟨gd,1,J⟩ _ _ (show w.heap.size≠gd by omega),old _ (by omega)];exact hz
 . have hb3:At w.heap.size w w3:=(hb.trans (hbx.mono hb.size)).grown hgrow (by simp;have:=hb.size;omega) (fun k hk=>by have:=Vj k hk;omega)
   exact hb3.setCell (p:=⟨gd,1,J⟩) (by show w.heap.size<=gd;omega) _
theorem gY{w:E}{v:X}{O:List (Int × Int)}(hs:OwSl w v O)(g:Int)(hg1:0<=g)(hg2:g<12)(ha:F5 O=AL):
 AA Ae 54 #[Y I g,v] w fun e w'=>∃ v,e=Ag (AO #[BD #[Y I g,v],Y I 0])/\KR w' w.heap.size v (CQ O 64)/\At w.heap.size w w':=by
 have hb1:=Ay w (d #[Y I 0,Ak J 0 0] 112);have hr1:=Aw w (d #[Y I 0,Ak J 0 0] 112);obtain⟨w1,hw1⟩:=nm (w.alloc (d #[Y I 0,Ak J 0 0] 112));rw[<- hw1] at hb1 hr1;have SG:w.heap.size<w1.heap.size:=by rw[hw1];simp
 have H1:=vJ hw1.symm;have HR1:=vJ hr1;have hs1:=hs.below hb1;have HA:=vJ (Tq hs1 ha);have hO:=Jt ha;obtain⟨b,off,cap,rfl,hb,hc⟩:=hs.at (by omega);have HC:=vJ hc;have HBB:=vJ hs.1;have HO:=vJ hO;have g1:¬ 11<g:=by omega
 have g0:¬ g<0:=by omega
 rw[hO] at HA |-
 clear hs hs1 hw1 ha hc hO hr1;go_enter Tryz.func54,Tryz.ntmps54
 go_wp2_with (first
  |(go_at_call 53;rw[H1.out];refine HA.out.mono ?_;rintro e w2 ⟨v2,rfl,hs2,hb2⟩;have hr2:=BA HR1.out hb2))
 have hb3:=Ay w2 (d #[Y I g,Ak J 0 0] 112);have cy:=Aw w2 (d #[Y I g,Ak J 0 0] 112);generalize w2.alloc (d #[Y I g,Ak J 0 0] 112)=w3 at hb3 cy |-
 have hr3:=BA hr2 hb3;obtain⟨gd,Dn⟩:=nm w2.heap.size;rw[<- Dn] at cy |-
 have hwd:w.heap.size<gd:=by have:=hb2.size;omega
 have hb03:At w.heap.size w w3:=(hb1.trans (hb2.mono hb1.size)).trans (hb3.mono (by omega));have hdl:gd<w3.heap.size:=(Al.1 cy).1;have HD3:=vJ cy;have HR3:=vJ hr3;clear cy hr3 hr2 hb3 hb2 hs2 Dn;go_loopw [30] (fun i wr=>∃ k:Nat,k<=64/\i=Y I k/\∃ vL,Hid (wr.heap[gd]? =H (d #[Y I g,vL] 112 (0,0)))/\Hid (KR wr (gd+1) vL (CQ O k))/\Hid (wr.heap[w.heap.size]? =H (d #[Y I 0,Ak J 0 0] 112 (0,0)))/\At w.heap.size w wr) (fun i _=>64-(intOf i).toNat)
 case atStart=>exact⟨0,by omega,rfl,_,HD3,qT _ _,HR3,hb03⟩
 case round=>
  obtain⟨k,hk,rfl,vL,HD,HKR,HRC,hbr⟩:=hrel;clear HD3 HR3 hb03;by_cases hlt:k<64
  . have hck:=HC.out k (by rw[HO.out];exact hlt)
    have hbd:=HBB.out k;have pK:E8 O k=decide ((O.getD k (0,0)).1≠0):=rfl;have l8:=Rq O k;obtain⟨x,hx⟩:=nm ((O.getD k (0,0)).1);rw[<- hx] at hck hbd pK;have c1:=(hbr.cell (p:=⟨b,off+k*2,J⟩) hb).trans hck.1;have c2:wr.cell? ⟨gd,1,J⟩=H vL:=(by rw[Az _ _ _ _ _ _ HD.out];rfl);have ek:(k:Int)<64:=(by omega);obtain⟨ub,rc⟩:=nm (E8 O k);rw[<- rc] at l8 pK;have hxb:(x != 0)=ub:=by rw[pK];by_cases h0:x=0 <;> simp[h0]
    have HSU:=vJ l8;have HUL:=vJ (EZ O k);clear hx hck pK rc l8;obtain⟨i,hi1,Hc,ib,ai⟩:=By gy;have rf:(X.bool AI).cells.size=1:=rfl;have Vk:gd<wr.heap.size:=(Al.1 HD.out).1;have Vj:∀ m,vL.ownBlock=H m->gd+1<=m:=fun m hm=>(Ck HKR.out m hm).1
    have lG:H gd≠vL.ownBlock:=fun e=>by have:=Vj gd e.symm;omega
    have fz:wr.frozen? ⟨gd,1,J⟩=AI:=frozen_of_row _ _ _ _ _ HD.out;have hc3:∀ w3,((wr.alloc (d #[A1 ub] 4)).drew).grownBy w3 vL.ownBlock->w3.cell? ⟨gd,1,J⟩=H vL/\w3.frozen? ⟨gd,1,J⟩=AI:=fun w3 hg=>by
     have XH:gd<((wr.alloc (d #[A1 ub] 4)).drew).heap.size:=(by simp;omega);rw[hg.cell_far _ XH lG,hg.frozen_far _ XH lG];exact⟨by rw[E.cell?_drew,Df _ _ _ Vk];exact c2,by rw[E.frozen?_drew,E.frozen?_alloc_past _ _ _ Vk];exact fz⟩
    have HC3:=vJ hc3;have HUNE:=vJ Vj;have hlb:(CQ O k).length<=64:=(by rw[HUL.out];exact hk);have rh:∀ u∈[X.bool ub],u.oneCell'=AL:=fun u hu=>by simp at hu;subst hu;rfl
    clear hc3 Vj lG;go_wp2
    go_region_law
     ((refine step_append_lies _ (by rfl) _ _ _ (by rfl) (gd+1) 4 i _ 1 1 Tryz.underlying110 hi1 Hc ib ai rf (by omega) vL (CQ O k).length ((CQ O k).map X.bool) (by rfl) ((HKR.out.alloc _).drew)
        ⟨wr.heap.size,0,J⟩ 1 1 [X.bool ub] (by rfl) (by rfl) (E.news_of_block (cs:=#[X.bool ub]) (t:=4) (fr:=(0,0)) (Aw wr _)) rh
        (by omega) (by simp only[maxLen];omega) (by omega) (by simp;omega) (wr.heap.size+1) (by simp) ?_;intro gg cap w3 TV hgrow Ha hltg;obtain⟨c3,f3⟩:=HC3.out w3 hgrow))
    all_goals
     have HST:=vJ (dK HD.out HKR.out HRC.out hwd hbr hgrow TV);clear TV hgrow Ha;go_wp2;go_roundw
     case rel=>exact⟨k+1,by omega,by go_num,_,HST.out.1,by show KR _ _ _ (CQ O (k+1));rw[HSU.out];exact HST.out.2.1,HST.out.2.2.1,HST.out.2.2.2⟩
     case measure=>simp[intOf];omega
  . obtain rfl:k=64:=by omega
    have d0:wr.cell? ⟨gd,0,J⟩=H (Y I g):=(by rw[Az _ _ _ _ _ _ HD.out];rfl);have d1:wr.cell? ⟨gd,1,J⟩=H vL:=(by rw[Az _ _ _ _ _ _ HD.out];rfl);have hrc:=HRC.out;obtain⟨aL,cL,rfl⟩:=HKR.out.ksl.shape;go_wp2_with (with_reducible refine Fb rfl 112 Lm (.tmp 4) (.tmp 45) rfl w.heap.size rfl _ _ _ _ rfl rfl rfl _ hrc ?_;intro w5 hw5 E3)
    refine Bv (Ia rfl Tryz.underlying112 Lm _ _ w.heap.size _ _ _ _ rfl E3 rfl) rfl ⟨_,rfl,?_,hbr.trans (hw5.below (AB _))⟩;exact(HKR.out.more (by omega)).wrote hw5 (fun m hm=>by have:=(Ck HKR.out m hm).1;omega)
theorem qQ{w:E}{B:Nat}{v:X}{O:List (Int × Int)}(h:OwR w B v O)(n:Nat)(hn:O.length=n)(h0:0<n):∃ g cap,v=Ak (H ⟨g,0,J⟩) n cap:=by
 rcases h.2.2 with⟨_,h1⟩| ⟨g,cap,cur,hv,_⟩
 . omega
 . exact⟨g,cap,by rw[hv,hn]⟩
theorem JQ{O:List (Int × Int)}(h:O.length=64):(D3 O).length=256:=by rw[D3,Fz,h]
theorem Xi(w2:E):BSl (w2.alloc (d #[Y .u8 100,Y .u8 101,Y .u8 115,Y .u8 99] 5 (4,5))) (Ak (H ⟨w2.heap.size,0,J⟩) 4 4) [100,101,115,99]:=by
 refine⟨CE (by decide),Ba ⟨_,4,rfl,by decide,fun j hj=>⟨by simp,rfl,?_⟩⟩⟩;have hj:j<4:=hj;have hh:(w2.alloc (d #[Y .u8 100,Y .u8 101,Y .u8 115,Y .u8 99] 5 (4,5))).heap[w2.heap.size]? =H (d #[Y .u8 100,Y .u8 101,Y .u8 115,Y .u8 99] 5 (4,5)):=by
  show(w2.heap.push _)[w2.heap.size]? =_
  simp
 rw[Bm,Az _ _ _ _ _ _ hh];have:j=0\/j=1\/j=2\/j=3:=by omega
 rcases this with rfl|rfl|rfl|rfl <;> rfl
theorem BRow.low{w w':E}{p r:Nat}{L:List Bool}(h:BRow w p r L)(hb:At w.heap.size w w'):BRow w' p r L:=h.below hb h.lt.1 h.lt.2
theorem pp{w:E}{v:X}{l:List Int}(hs:BSl w v l)(hl:l.length<=1000)(x:Int)(h0:0<=x)(h1:x<=65535):AA Ae 158 #[v,Y .u64 x,Y I 2] w (JZ w (l ++ BN x 2)):=
 FX hs (by omega) x 2 2 (by omega) (by omega) rfl h0 (by omega)
theorem dC{w:E}{p r:Nat}{L:List Bool}(hr:BRow w p r L)(g:Int)(h1:0<=g)(h2:g<12)(hL:L.length=64):
 AA Ae 261 #[BD #[Y I g,Am (H ⟨p,0,J⟩)]] w fun e w'=>∃ v,e=Ag (AO #[v,Y I 0])/\OB w' w.heap.size v (GI g L)/\At w.heap.size w w':=by
 have hb1:=Ay w (d #[Y I g,Am (H ⟨p,0,J⟩)] 311);have hd1:=Aw w (d #[Y I g,Am (H ⟨p,0,J⟩)] 311);obtain⟨w1,hw1⟩:=nm (w.alloc (d #[Y I g,Am (H ⟨p,0,J⟩)] 311));rw[<- hw1] at hb1 hd1;have H1:=vJ hw1.symm;have HROW:=vJ (hr.low hb1);have hlen:=VC HROW.out;rw[hL] at hlen;have HLEN:=vJ hlen;have cA:=LY L;obtain⟨C,hC⟩:=nm (Eo L);rw[<- hC,hL] at cA;have HC:=vJ hC;have HL:=vJ hL;have HD1:=vJ hd1;have hlt:w.heap.size<w1.heap.size:=(Al.1 hd1).1;have c0:w1.cell? ⟨w.heap.size,0,J⟩=H (Y I g):=by rw[Az _ _ _ _ _ _ hd1];rfl
 have c1:w1.cell? ⟨w.heap.size,1,J⟩=H (Am (H ⟨p,0,J⟩)):=by rw[Az _ _ _ _ _ _ hd1];rfl
 have kc:=fun(w:E) (C:Array X) (n c:Nat)=>Lib.run_convert_bytes_const (P:=Ae) w 49 5 C n c Tryz.underlying49 Tryz.underlying5
 clear hr hlen hC hL hd1 hw1;go_enter Tryz.func261,Tryz.ntmps261
 go_wp2_with (first
  |(go_at_call 265;rw[H1.out];refine(QR g h1 h2 _).mono ?_;rintro e w2 ⟨rfl,rfl⟩)
  |(go_at_call 255;refine HLEN.out.mono ?_;rintro e w2 ⟨rfl,rfl⟩))
 have hbm:=Xi w1;have hb2:=Ay w1 (d #[Y .u8 100,Y .u8 101,Y .u8 115,Y .u8 99] 5 (4,5));generalize w1.alloc (d #[Y .u8 100,Y .u8 101,Y .u8 115,Y .u8 99] 5 (4,5))=w2 at hbm hb2 |-
 have HMG:=vJ (pp hbm (by decide) g h1 (by omega));clear hbm kc
 go_wp2_with (first
  |(go_at_call 158;(with_reducible refine HMG.out.mono ?_);rintro e w4 ⟨v4,rfl,hob4,hb4⟩
    have hb14:At w1.heap.size w1 w4:=hb2.trans (hb4.mono hb2.size);have x1:w4.cell? ⟨w.heap.size,1,J⟩=H (Am (H ⟨p,0,J⟩)):=(hb14.cell (p:=⟨w.heap.size,1,J⟩) hlt).trans c1;have HR4:=vJ (HROW.out.low hb14))
  |(go_at_call 235;refine(Q5 HR4.out).mono ?_;rw[<- HC.out];rintro e w5 ⟨rfl,m5,rfl⟩
    have y1:(w4.drewN m5).cell? ⟨w.heap.size,1,J⟩=H (Am (H ⟨p,0,J⟩)):=x1;have HP2:=vJ (pp (hob4.bsl.drewN m5) (by rw[Ax,Bc];decide) (C:Int) (by omega) (by omega)))
  |(go_at_call 158;(with_reducible refine HP2.out.mono ?_);rintro e w6 ⟨v6,rfl,hob6,hb6⟩
    have hb46:At w4.heap.size w4 w6:=⟨hb6.os,hb6.tape,hb6.output,hb6.size,hb6.block⟩;have hb16:At w1.heap.size w1 w6:=hb14.trans (hb46.mono hb14.size);have z1:w6.cell? ⟨w.heap.size,1,J⟩=H (Am (H ⟨p,0,J⟩)):=(hb16.cell (p:=⟨w.heap.size,1,J⟩) hlt).trans c1;have HR6:=vJ (HROW.out.low hb16))
  |(go_at_call 266;refine(ZV HR6.out (I7 L) (RA L)).mono ?_;rintro e w7 ⟨v7,rfl,hs7,hb7⟩
    have hb17:At w1.heap.size w1 w7:=hb16.trans (hb7.mono hb16.size))
  |(at_builtin
    refine BY w7 rfl (.tmp 27) (.tmp 30) rfl w1.heap.size _ ([100,101,115,99] ++ BN g 2 ++ BN (C:Int) 2) rfl ((hob6.below hb7).more (by have:=hb14.size;simpa using this)) w7 v7 (I7 L) rfl hs7 (fun _ _=>rfl) (by rw[E9,HL.out];simp[Bc]) hb17.size ?_;intro v8 w8 hob8 hb8 _;have hb18:At w1.heap.size w1 w8:=hb17.trans hb8;have HSE:Hid (AA Ae 196 #[v8] w8 (Qq (R6 g L) w8)):=vJ (by rw[R6,<- HC.out];exact L8 hob8.bsl (by rw[Ax,E9,HL.out];simp[Bc])))
  |(go_at_call 196;refine HSE.out.mono ?_;rintro e w9 ⟨v9,rfl,hob9,hb9⟩))
 go_ret2;exact⟨v9,rfl,hob9.more (AT hb1.size hb18.size),(hb1.trans (hb18.mono hb1.size)).trans (hb9.mono (AT hb1.size hb18.size))⟩
theorem lx(n:Nat)(h:n<=4096)(w:E):AA Ae 253 #[Y I n] w fun e w'=>e=Ag (Am (H ⟨w.heap.size+1,0,J⟩))/\BRow w' (w.heap.size+1) w.heap.size (AD n AI)/\At w.heap.size w w':=
 (bP n n h w (by rw[AE (by omega),AE (by omega)])).mono fun _ _ ⟨h1,h2,h3,_⟩=>⟨h1,h2,h3⟩
end
section
open Go.RowKit
theorem To{l m:List Int}(hl:FJ l)(hm:FJ m)(h:(strOfNums l).data.toList=(strOfNums m).data.toList):l=m:=by
 have e:l.map (fun n=>UInt8.ofNat n.toNat)=m.map (fun n=>UInt8.ofNat n.toNat):=by
  rw[<- strOfNums_data,<- strOfNums_data,h]
 have hlen:l.length=m.length:=by simpa using BH List.length e
 apply Bi hlen;intro i h1 h2;have h3:=BH (fun z=>z[i]?) e;simp[h1,h2] at h3;have a:=CZ hl l[i] (Bf h1);have b:=CZ hm m[i] (Bf h2);have h4:=BH UInt8.toNat h3;simp at h4;omega
theorem EC{w:E}{u v:X}{l m:List Int}(hu:BSl w u l)(hv:BSl w v m):AA Ae 156 #[u,v] w fun e w'=>e=Ag (A1 (decide (l=m)))/\w=w':=by
 have c1:=G3 hu;have c2:=G3 hv;have b1:=hu.1;have b2:=hv.1;have hd:((strOfNums l).toList==(strOfNums m).toList)=decide (l=m):=by
  by_cases e:l=m
  . rw[AF e,e];exact beq_self_eq_true _
  . rw[AG e,Fg,Fg]
    rw[beq_eq_false_iff_ne];exact fun h=>e (To b1 b2 h)
 have HD:=vJ hd;clear hu hv b1 b2 hd;go_enter Tryz.func156,Tryz.ntmps156;go_wp2;go_ret;exact⟨by rw[<- HD.out];rfl,rfl⟩
def Uq(x:Int):Bool:=decide (0<=x/\x<=767)
def Yu(N:List Int)(i:Nat):Bool:=(N.take i).all fun x=>!(x==N.getD i 0)
def Z5(N:List Int)(D:List (List Int))(i:Nat):Bool:=Uq (N.getD i 0) && (decide ((D.getD i []).length=256) && Yu N i)
def a8(N:List Int)(D:List (List Int))(k:Nat):Bool:=(Co k).all fun i=>Z5 N D i
def GA(N:List Int)(D:List (List Int)):Bool:=decide (N.length<=37) && (decide (D.length=N.length) && a8 N D N.length)
theorem OX(N:List Int)(D:List (List Int))(k:Nat):a8 N D k=AL ↔ ∀ i,i<k->Z5 N D i=AL:=by
 unfold a8;rw[DJ];exact⟨fun h i hi=>h i (Bo.2 hi),fun h i hi=>h i (Bo.1 hi)⟩
theorem fm{N:List Int}{D:List (List Int)}(h:37<N.length):GA N D=AI:=by
 unfold GA;rw[AG (by omega)];rfl
theorem ke{N:List Int}{D:List (List Int)}(h:D.length≠N.length):GA N D=AI:=by
 unfold GA;rw[AG h];cases decide (N.length<=37) <;> rfl
theorem EX{N:List Int}{D:List (List Int)}(h:GA N D=AL):N.length<=37/\D.length=N.length/\∀ i,i<N.length->(0<=N.getD i 0/\N.getD i 0<=767)/\(D.getD i []).length=256/\Yu N i=AL:=by
 unfold GA at h;rw[AY,AY,Bd,Bd] at h;refine⟨h.1,h.2.1,fun i hi=>?_⟩;have:=(OX N D _).1 h.2.2 i hi;unfold Z5 Uq at this;rw[AY,AY,Bd,Bd] at this;exact⟨this.1,this.2.1,this.2.2⟩
theorem Q9(N:List Int)(i:Nat)(hi:i<N.length):Yu N i=AL ↔ ∀ j,j<i->N.getD j 0≠N.getD i 0:=by
 unfold Yu;rw[DJ];constructor
 . intro h j hj
   have MY:j<(N.take i).length:=(by rw[AK];omega);have:=h _ (Bf MY);rw[C7] at this;have e:N.getD j 0=N[j]'(by omega):=(by simp[show j<N.length by omega]);rw[e]
   simpa using this
 . intro h x hx
   obtain⟨j,hj,rfl⟩:=BW hx;rw[AK] at hj;rw[C7];have:=h j (by omega);have e:N.getD j 0=N[j]'(by omega):=(by simp[show j<N.length by omega]);rw[e] at this
   simpa using this
def jrnl:List Int:=[106,114,110,108]
def Rt:List Int:=[100,111,110,101]
def Jg(N:List Int):List Int:=N.flatMap fun n=>BN n 2
def Cw(q:Int)(N:List Int):List Int:=jrnl ++ BN q 4 ++ BN (N.length:Int) 2 ++ Jg N
def Ec(q:Int):List Int:=Rt ++ BN q 4
def IN(q:Int)(N:List Int)(D:List (List Int)):List (List Int):=BU (Cw q N) :: (D ++ [BU (Ec q)])
theorem Lf(N:List Int):(Jg N).length=2*N.length:=by
 unfold Jg;induction N with
 |nil=>rfl
 |cons x N ih=>rw[CD,Ax,ih,Bc,Ch];omega
theorem fX(N:List Int)(x:Int):Jg (N ++ [x])=Jg N ++ BN x 2:=by
 unfold Jg;rw[Eb];simp
theorem eU(N:List Int)(k:Nat)(h:k<N.length):Jg (N.take (k+1))=Jg (N.take k) ++ BN (N.getD k 0) 2:=by
 rw[Bn h,fX];simp[h]
theorem Gu(q:Int)(N:List Int):(Cw q N).length=10+2*N.length:=by
 simp only[Cw,Ax,Bc,Lf];have:jrnl.length=4:=rfl;omega
theorem Lq(q:Int):(Ec q).length=8:=by
 rw[Ec,Ax,Bc];rfl
theorem NT(q:Int)(N:List Int)(D:List (List Int)):(IN q N D).length=D.length+2:=by simp[IN]
theorem kz:FJ jrnl:=CE fun x hx=>by simp[jrnl] at hx;omega
theorem jk:FJ Rt:=CE fun x hx=>by simp[Rt] at hx;omega
theorem ID(A R:List Int)(n:Int)(k:Nat)(h:0<=n)(a:Nat)(ha:A.length=a):Cc (A ++ (BN n k ++ R)) a k=n%256 ^ k:=by
 subst ha;unfold Cc;rw[List.drop_left,Dl (Bc n k),Kq n k h]
theorem SO(q:Int)(N:List Int)(h:N.length<=37):(BU (Cw q N)).take 252=DM (Cw q N):=by
 rw[BU,Dl];exact EU _ (by rw[Gu];omega)
theorem Xq(q:Int)(N:List Int)(h0:0<=q)(h1:q<4294967296):Cc (DM (Cw q N)) 4 4=q:=by
 have e:DM (Cw q N)=jrnl ++ (BN q 4 ++ (BN (N.length:Int) 2 ++ (Jg N ++ AD (252-(Cw q N).length) 0))):=by
  unfold DM Cw;simp
 rw[e,ID _ _ q 4 h0 4 rfl];exact Dw h0 (by simpa using h1)
theorem Sc(q:Int)(N:List Int)(h:N.length<=37):Cc (DM (Cw q N)) 8 2=(N.length:Int):=by
 have e:DM (Cw q N)=(jrnl ++ BN q 4) ++ (BN (N.length:Int) 2 ++ (Jg N ++ AD (252-(Cw q N).length) 0)):=by
  unfold DM Cw;simp
 have hl:(jrnl ++ BN q 4).length=8:=by rw[Ax,Bc];rfl
 rw[e,ID _ _ _ 2 (by omega) 8 hl];exact Dw (by omega) (by omega)
theorem ZY(N:List Int)(i:Nat)(hi:i<N.length):Jg N=Jg (N.take i) ++ (BN (N.getD i 0) 2 ++ Jg (N.drop (i+1))):=by
 have e:N=N.take i ++ (N[i] :: N.drop (i+1)):=by rw[<- Dq hi,Be]
 have e2:N.getD i 0=N[i]:=by simp[hi]
 rw[e2]
 conv=>lhs;rw[e]
 unfold Jg;rw[Eb,CD]
theorem PH(q:Int)(N:List Int)(i:Nat)(hi:i<N.length)(hn:0<=N.getD i 0/\N.getD i 0<=767):Cc (DM (Cw q N)) (10+2*i) 2=N.getD i 0:=by
 have e:DM (Cw q N)=(jrnl ++ BN q 4 ++ BN (N.length:Int) 2 ++ Jg (N.take i)) ++ (BN (N.getD i 0) 2 ++ (Jg (N.drop (i+1)) ++ AD (252-(Cw q N).length) 0)):=by
  have e1:Cw q N=jrnl ++ BN q 4 ++ BN (N.length:Int) 2 ++ (Jg (N.take i) ++ (BN (N.getD i 0) 2 ++ Jg (N.drop (i+1)))):=by
   rw[<- ZY N i hi];rfl
  unfold DM;generalize AD (252-(Cw q N).length) (0:Int)=Z;rw[e1];simp only[AQ]
 have hl:(jrnl ++ BN q 4 ++ BN (N.length:Int) 2 ++ Jg (N.take i)).length=10+2*i:=by
  simp only[Ax,Bc,Lf,AK];have:jrnl.length=4:=rfl;omega
 rw[e,ID _ _ _ 2 hn.1 _ hl];exact Dw hn.1 (by omega)
def cB(b:List Int):List X:=b.map (Y .u8)
theorem CI(b:List Int):(cB b).length=b.length:=by simp[cB]
theorem Hd(b:List Int):∀ v∈cB b,v.oneCell'=AL:=fun v hv=>by obtain⟨x,_,rfl⟩:=Cq.1 hv;rfl
def cU(x:Nat × List Int):List X:=Y I x.1 :: cB x.2
theorem Ti(x:Nat × List Int):(cU x).length=x.2.length+1:=by simp[cU,CI]
theorem X9(x:Nat × List Int):∀ v∈cU x,v.oneCell'=AL:=fun v hv=>by
 rcases Cy.1 hv with rfl|h
 . rfl
 . exact Hd _ v h
def XR(b:List Int):Prop:=b.length=256/\FJ b
theorem EH{L:List (List Int)}(h:∀ b∈L,XR b):∀ x∈L,(cB x).length=256:=fun x hx=>by rw[CI,(h x hx).1]
theorem Tc{L:List (Nat × List Int)}(h:∀ x∈L,XR x.2):∀ x∈L,(cU x).length=257:=fun x hx=>by rw[Ti,(h x hx).1]
def zB:List X:=AD 256 (Y .u8 0)
theorem Fw:zB.length=256:=A4
theorem pD:(Ae.info? 126).map (fun i=>(i.zero,i.size,i.bytes))=H (H (BD zB.toArray),256,256):=by kernel_rfl
theorem bH:(Ae.info? 130).map (fun i=>(i.zero,i.size,i.bytes))=H (H (BD (Y I 0 :: zB).toArray),257,264):=by kernel_rfl
theorem GR(w:E){ops:Array BS}{rest:List BS}{o:BS}{a:Act}{Q:Exit->Act->E->Prop}(hg:o.guard=J)(Mr:o.op=Op.alloc 126)
 (hK:Cn Ae ops Q rest (a.put o.dst (Am (H ⟨w.heap.size,0,J⟩))) (w.alloc (d zB.toArray 126))):Cn Ae ops Q (o :: rest) a w:=by
 refine CM hg fun K hK'=>?_
 have hz:=(zero_of_info (v:=BD zB.toArray) (n:=256) (t:=126) (P:=Ae) (by
  obtain⟨i,h2,h3,h4,h5⟩:=By pD;simp[h2,h3,h4])).1 w
 unfold BS.wp execOp;simp only[Mr,Instr.alloc,newVar,newRow,DE,hz,Result.andThen_ok,X.cells];exact hK' _ _ hK
theorem QC:(Ae.info? 126).map (·.size)=H 256:=by kernel_rfl
theorem YO:Ae.built 126 []=H zB.toArray:=by kernel_rfl
theorem Sw(w:E){ops:Array BS}{rest:List BS}{o:BS}{a:Act}{Q:Exit->Act->E->Prop}(hg:o.guard=J)(Mr:o.op=Op.build 126 #[])
 (hK:Cn Ae ops Q rest (a.put o.dst (BD zB.toArray)) w):Cn Ae ops Q (o :: rest) a w:=by
 refine CM hg fun K hK'=>?_
 have hb:Ae.built 126 ((#[]:Array (Nat × Operand)).map fun(i,x)=>(i,a.eval x)).toList=H zB.toArray:=by simpa using YO
 exact wp_build 126 #[] Mr (by rw[hb];rfl) (by rw[hb];exact hK' _ _ hK)
theorem FQ(w:E){ops:Array BS}{rest:List BS}{o:BS}{a:Act}{Q:Exit->Act->E->Prop}(hg:o.guard=J)(x y:Operand)(Mr:o.op=Op.store 126 x y)
 (g:Nat) (t:TypeId) (old cells:List X) (hx:a.eval x=Am (H ⟨g,0,J⟩)) (hy:a.eval y=BD cells.toArray) (hh:w.heap[g]? =H (d old.toArray t (0,0))) (ho:old.length=256) (hc:cells.length=256) (h1:∀ v∈cells,v.oneCell'=AL)
 (hK:Cn Ae ops Q rest (a.put o.dst undef) (w.setRow g cells.toArray)):Cn Ae ops Q (o :: rest) a w:=
 Do hg 126 x y Mr g cells.toArray hx hy t old.toArray hh (by rw[QC];simp[hc]) (by simp[ho,hc]) (Dv h1) hK
theorem N8(w:E){ops:Array BS}{rest:List BS}{o:BS}{a:Act}{Q:Exit->Act->E->Prop}(hg:o.guard=J)(x:Operand)(Mr:o.op=Op.load 126 x)
 (g off:Nat) (cells:List X) (hx:a.eval x=Am (H ⟨g,off,J⟩)) (hr:w.rangeAt g off cells) (hc:cells.length=256)
 (hK:Cn Ae ops Q rest (a.put o.dst (BD cells.toArray)) w):Cn Ae ops Q (o :: rest) a w:=
 wpList_load_mid hg 126 x Mr g off hx cells _ hr Tryz.underlying126 rfl (by rw[QC,hc]) hK
theorem Nr{w:E}{v:X}{l:List Int}(hv:BSl w v l)(hl:l.length=256):
 AA Ae 62 #[v] w fun e w'=>e=Ag (BD (cB l).toArray)/\At w.heap.size w w':=by
 obtain⟨ao,cap,rfl,Cm⟩:=hv.shape;obtain⟨M,hM⟩:=nm l.length;have hlen:Ae.arrayLen 126=256:=by kernel_rfl
 have harr:Ae.underlying 126=H (.array 256 5):=Tryz.underlying126;have HZ:=vJ Fw;have HL:=vJ hl;have hone:∀ v∈zB,v.oneCell'=AL:=fun v hv=>by rw[BR hv];rfl
 rw[<- hM] at hv |-
 have Vi:=ED hv (fun _ _=>rfl) (w1:=w) l.length;rw[B8] at Vi;have HM:Hid (M=256):=by rw[hM];exact HL
 clear hl Cm hM;go_enter Tryz.func62,Tryz.ntmps62
 go_wp2_with (first
  |with_reducible refine GR _ rfl rfl ?_
  |with_reducible refine Sw _ rfl rfl ?_
  |(refine FQ _ rfl _ _ (by rfl) _ 126 zB zB (by rfl) (by rfl) (Cu _ _) HZ.out HZ.out hone ?_
    rw[Fk])
  |(refine C8 (by rfl) _ _ _ _ (by rfl) 5 Tryz.underlying49 (by kernel_rfl) _ _ _ _ _ _ (by rfl) (by rfl) (w.heap.size+1) 0 zB 126 ?_ (cB l) 256 (by rw[CI];exact HL.out) ?_ ?_ ?_ (Hd l) ?_))
 . rw[show w.heap.size+1=(w.alloc (d zB.toArray 126)).heap.size by simp];exact Cu _ _
 . rw[HM.out];rfl
 . intro IK
   obtain⟨ad,rfl,hc⟩:=Vi IK;refine⟨ad,rfl,fun j v hj=>?_⟩;have ri:=hc j v hj;have hlt:=E.block_lt_of_cell? w _ ri;rw[Df _ _ _ (AH hlt (by simp)),Df _ _ _ hlt,ri]
 . rw[CI,HL.out,HZ.out];exact AB _
 intro w' hrow hwr;rw[EW _ _ (by rw[CI,HL.out,HZ.out])] at hrow;have pL:w'.heap[w.heap.size]? =H (d zB.toArray 126 (0,0)):=by
  rw[hwr.2.2.2.2 _ (by omega),@heap_alloc_old _ _ _ (by simp)];exact Cu _ _
 go_wp2_with (first
  |(refine N8 _ rfl _ (by rfl) _ 0 (cB l) (by rfl) (EE hrow.out (by rw[CP,B8])) (by rw[CI];exact HL.out) ?_)
  |(refine FQ _ rfl _ _ (by rfl) _ 126 zB (cB l) (by rfl) (by rfl) pL HZ.out (by rw[CI];exact HL.out) (Hd l) ?_))
 have Mt:=Cr w' w.heap.size _ (cB l).toArray 126 _ pL;refine Bv (v:=BD (cB l).toArray) ?_ rfl ⟨rfl,?_⟩
 . exact results_cell_row rfl _ _ w.heap.size 126 (cB l).toArray (0,0) _ (by rfl) Mt harr rfl (by rw[QC];simp[CI,HL.out])
 . have b1:At w.heap.size w ((w.alloc (d zB.toArray 126)).alloc (d zB.toArray 126)):=((AM _ _).alloc (AB _) _).alloc (by simp) _
   have b2:At w.heap.size _ w':=hwr.below (by omega);exact(b1.trans b2).trans ((Wrote.setRow w' w.heap.size _).below (AB _))
structure DskAt (w:E) (B bp bf bv:Nat) (u:X) (F V:List (List Int)) (U:List (Nat × List Int)) (fu:Bool) (le:Int) (dn:Bool):Prop where
 bB:B<=bp/\B<=bf/\B<=bv
 ne:bp≠bf/\bp≠bv/\bf≠bv
 hp:w.heap[bp]? =H (d #[Ak (H ⟨bf,0,J⟩) F.length F.length,Ak (H ⟨bv,0,J⟩) V.length V.length,u,A1 fu,Y I le,A1 dn] 102 (0,0))
 hf:w.heap[bf]? =H (d (F.flatMap cB).toArray 126 (0,0))
 hv:w.heap[bv]? =H (d (V.flatMap cB).toArray 126 (0,0))
 hu:w.ownsRow B 130 257 u U.length (U.flatMap cU)
 une:u.ownBlock≠H bp/\u.ownBlock≠H bf/\u.ownBlock≠H bv
 okF:∀ b∈F,XR b
 okV:∀ b∈V,XR b
 okU:∀ x∈U,x.1<V.length/\XR x.2
 len:F.length=V.length
 max:V.length<=2000
def vG(w:E)(B:Nat)(p:X)(F V:List (List Int))(U:List (Nat × List Int)):Prop:=
 ∃ bp bf bv u,p=Am (H ⟨bp,0,J⟩)/\DskAt w B bp bf bv u F V U AI 0 AI
theorem DskAt.below{w w':E}{B bp bf bv:Nat}{u:X}{F V:List (List Int)}{U:List (Nat × List Int)}{fu dn:Bool}{le:Int}(h:DskAt w B bp bf bv u F V U fu le dn)(hb:At w.heap.size w w'):DskAt w' B bp bf bv u F V U fu le dn:=by
 have key:∀ {g:Nat} {o:Obj},w.heap[g]? =H o->w'.heap[g]? =H o:=fun hg=>by
  rw[hb.block _ (Al.1 hg).1];exact hg
 refine { h with hp:=key h.hp,hf:=key h.hf,hv:=key h.hv,hu:=⟨h.hu.1,?_⟩ };rcases h.hu.2 with h| ⟨g,cap,cur,hv,hg,hh,r⟩
 . exact AN h
 . exact Ba ⟨g,cap,cur,hv,hg,key hh,r⟩
section
variable {w:E}{B bp bf bv:Nat}{u:X}{F V:List (List Int)}{U:List (Nat × List Int)}{fu dn:Bool}{le:Int}
theorem DskAt.c0(h:DskAt w B bp bf bv u F V U fu le dn):w.cell? ⟨bp,0,J⟩=H (Ak (H ⟨bf,0,J⟩) F.length F.length):=by rw[Az _ _ _ _ _ _ h.hp];rfl
theorem DskAt.c1(h:DskAt w B bp bf bv u F V U fu le dn):w.cell? ⟨bp,1,J⟩=H (Ak (H ⟨bv,0,J⟩) V.length V.length):=by rw[Az _ _ _ _ _ _ h.hp];rfl
theorem DskAt.c2(h:DskAt w B bp bf bv u F V U fu le dn):w.cell? ⟨bp,2,J⟩=H u:=by rw[Az _ _ _ _ _ _ h.hp];rfl
theorem DskAt.c3(h:DskAt w B bp bf bv u F V U fu le dn):w.cell? ⟨bp,3,J⟩=H (A1 fu):=by rw[Az _ _ _ _ _ _ h.hp];rfl
theorem DskAt.c4(h:DskAt w B bp bf bv u F V U fu le dn):w.cell? ⟨bp,4,J⟩=H (Y I le):=by rw[Az _ _ _ _ _ _ h.hp];rfl
theorem DskAt.c5(h:DskAt w B bp bf bv u F V U fu le dn):w.cell? ⟨bp,5,J⟩=H (A1 dn):=by rw[Az _ _ _ _ _ _ h.hp];rfl
theorem DskAt.fr(h:DskAt w B bp bf bv u F V U fu le dn)(i:Nat):w.frozen? ⟨bp,i,J⟩=AI:=by simp[E.frozen?,h.hp]
theorem DskAt.shapeU(h:DskAt w B bp bf bv u F V U fu le dn):∃ ao cap,u=Ak ao U.length cap:=by
 rcases h.hu.2 with⟨hv,h0⟩| ⟨g,cap,cur,hv,_⟩
 . exact⟨J,0,by rw[hv,h0]⟩
 . exact⟨_,cap,hv⟩
end
theorem Ub{w:E}{B bp bf bv:Nat}{u:X}{F V:List (List Int)}{U:List (Nat × List Int)}{fu dn:Bool}{le:Int}(h:DskAt w B bp bf bv u F V U fu le dn)(n:Int):
 AA Ae 99 #[Am (H ⟨bp,0,J⟩),Y I n] w fun e w'=>e=Ag (A1 (decide (0<=n/\n<V.length)))/\w=w':=by
 have c1:=h.c1;by_cases h0:0<=n
 . go_enter Tryz.func99,Tryz.ntmps99
   go_wp2;go_ret;refine⟨?_,rfl⟩;simp[h0]
 . go_enter Tryz.func99,Tryz.ntmps99
   go_wp2;go_ret;refine⟨?_,rfl⟩;rw[AG (by omega)];rfl
theorem NX{w:E}{B bp bf bv:Nat}{u:X}{F V:List (List Int)}{U:List (Nat × List Int)}{fu dn:Bool}{le:Int}(h:DskAt w B bp bf bv u F V U fu le dn)(n:Int){v:X}{l:List Int}(hv:BSl w v l):
 AA Ae 61 #[Am (H ⟨bp,0,J⟩),Y I n,v] w fun e w'=>e=Ag (A1 (decide ((0<=n/\n<V.length)/\l.length=256)))/\w=w':=by
 obtain⟨ao,cap,rfl,_⟩:=hv.shape;by_cases hn:0<=n/\n<V.length
 . go_enter Tryz.func61,Tryz.ntmps61
   go_wp2_with (go_at_call 99;refine(Ub h n).mono ?_;rintro e w' ⟨rfl,rfl⟩;rw[AF hn])
   go_ret;refine⟨?_,rfl⟩;by_cases hl:l.length=256
   . rw[AF ⟨hn,hl⟩];simp[hl]
   . rw[AG (fun h=>hl h.2)];simp;omega
 . go_enter Tryz.func61,Tryz.ntmps61
   go_wp2_with (go_at_call 99;refine(Ub h n).mono ?_;rintro e w' ⟨rfl,rfl⟩;rw[AG hn])
   go_ret;exact⟨by rw[AG (fun h=>hn h.1)];rfl,rfl⟩
def zb:List Int:=AD 256 0
theorem OO:zb.length=256:=A4
theorem jI:XR zb:=⟨OO,CW 256⟩
theorem tq:cB zb=AD 256 (Y .u8 0):=List.map_replicate
theorem n8(n:Nat):(AD n zb).flatMap cB=AD (n*256) (Y .u8 0):=by
 refine List.eq_replicate_iff.2 ⟨?_,fun v hv=>?_⟩
 . rw[CK (s:=256) (fun x hx=>by rw[BR hx,CI,OO]),A4]
 . obtain⟨b,hb,hv⟩:=List.mem_flatMap.1 hv
   rw[BR hb,tq] at hv;exact BR hv
theorem eW(n:Nat):madeCells zB.toArray n=(AD n (Y .u8 0)).toArray:=by
 apply Array.ext
 . simp[madeCells]
 . intro i h1 h2
   have hs:zB.toArray.size=256:=(by rw[List.size_toArray,Fw]);have hlt:i%zB.toArray.size<zB.toArray.size:=Gl _ (by rw[hs];decide);simp only[madeCells,Array.getElem_map,Array.getElem_range,As,List.getElem_replicate];rw[getElem!_pos zB.toArray _ hlt,As];exact BR (Bf _)
def Sq(n:Nat):Array X:=((AD n zb).flatMap cB).toArray
theorem WW(W:E)(n:Nat)(hn:n<=2000):(Instr.makeSlice 99 (Y I n) (Y I n)).run Ae W=.ok (Ak (H ⟨W.heap.size,0,J⟩) n n) (W.alloc (d (Sq n) 126)):=by
 obtain⟨i,h2,h3,h4,h5⟩:=By pD;have DY:=run_make (P:=Ae) W 99 126 i (BD zB.toArray) Tryz.underlying99 h2 h3 I I n n (by omega) (by omega) (by rw[h5];omega) (by omega);simp only[B5,h4] at DY;rw[DY,show(X.agg zB.toArray).cells=zB.toArray from rfl,eW,Sq,n8]
theorem jE(w:E)(n:Nat)(hn:n<=2000)(bf bv:Nat)(hb:(bf=w.heap.size/\bv=w.heap.size+1)\/(bf=w.heap.size+1/\bv=w.heap.size)):
 vG (((w.alloc (d (Sq n) 126)).alloc (d (Sq n) 126)).alloc (d #[Ak (H ⟨bf,0,J⟩) n n,Ak (H ⟨bv,0,J⟩) n n,Ak J 0 0,A1 AI,Y I 0,A1 AI] 102)).drew
  w.heap.size (Am (H ⟨w.heap.size+1+1,0,J⟩)) (AD n zb) (AD n zb) []:=by
 have s1:(w.alloc (d (Sq n) 126)).heap.size=w.heap.size+1:=by simp
 have s2:((w.alloc (d (Sq n) 126)).alloc (d (Sq n) 126)).heap.size=w.heap.size+1+1:=by simp
 have row:∀ (o:Obj) g,g=w.heap.size\/g=w.heap.size+1->(((w.alloc (d (Sq n) 126)).alloc (d (Sq n) 126)).alloc o).heap[g]? =H (d (Sq n) 126 (0,0)):=by
  rintro o g (rfl|rfl)
  . rw[@heap_alloc_old _ _ _ (by rw[s2];omega),@heap_alloc_old _ _ _ (by rw[s1];omega)];exact Cu _ _
  . rw[@heap_alloc_old _ _ _ (by rw[s2];omega),<- s1];exact Cu _ _
 have hlen:(AD n zb).length=n:=A4;refine⟨w.heap.size+1+1,bf,bv,Ak J 0 0,rfl,?_⟩
 refine⟨by omega,by omega,?_,row _ bf (by omega),row _ bv (by omega),⟨rfl,AN ⟨rfl,rfl⟩⟩,⟨by simp[X.ownBlock],by simp[X.ownBlock],by simp[X.ownBlock]⟩,
  fun b hb=>by rw[BR hb];exact jI,fun b hb=>by rw[BR hb];exact jI,fun x hx=>by simp at hx,rfl,by rw[hlen];exact hn⟩
 rw[hlen,<- s2];exact Cu _ _
theorem nl(w:E)(n:Nat)(hn:n<=2000):
 AA Ae 25 #[Y I n] w fun e w'=>∃ p,e=Ag p/\p≠Am J/\vG w' w.heap.size p (AD n zb) (AD n zb) []/\At w.heap.size w w':=by
 have sF:=fun W=>WW W n hn
 have e1:Max.max (n:Int) 0=n:=by omega
 have e2:Min.min (n:Int) 2000=n:=by omega
 have e3:((n:Int)<0)=False:=by simp
 go_enter Tryz.func25,Tryz.ntmps25;go_wp2_with fail
 go_region
 . go_wp2
   go_ret;exact⟨_,rfl,by simp,jE w n hn _ _ (by omega),A2 ((((AM _ _).alloc (AB _) _).alloc (by simp) _).alloc (by simp;omega) _) 1⟩
 . go_wp2
   go_ret;exact⟨_,rfl,by simp,jE w n hn _ _ (by omega),A2 ((((AM _ _).alloc (AB _) _).alloc (by simp) _).alloc (by simp;omega) _) 1⟩
theorem Ty:∀ (l:List X) (k off:Nat) (cells:List X),off+k+l.length<=cells.length->
 (l.zipIdx k).foldl (fun(cs:Array X) (x:X × Nat)=>cs.setIfInBounds (off+x.2) x.1) cells.toArray=(splice cells (off+k) l).toArray
 |[],k,off,cells,_=>by simp[splice]
 |v :: l,k,off,cells,h=>by
  have hl:off+k+(l.length+1)<=cells.length:=by simpa using h
  rw[List.zipIdx_cons,List.foldl_cons,show cells.toArray.setIfInBounds (off+k) v=(cells.set (off+k) v).toArray by simp,
   Ty l (k+1) off _ (by rw[AJ];omega)]
  have e:=list_seg_step cells (off+k) v l (by omega);simp only[splice,<- D6]
  simpa [D6] using BH List.toArray e
theorem Ow(place:Nat->Option (Nat × Nat))(cells:List X)(i off size:Nat)(v:X)(vs:List X)(rest:List (Nat × X))(hp:place i=H (off,size))(hv:v.cells=vs.toArray)(hs:vs.length=size)(hl:off+size<=cells.length):
 Instr.fill place cells.toArray ((i,v) :: rest)=Instr.fill place (splice cells off vs).toArray rest:=by
 have hf:=Ty vs 0 off cells (by omega);rw[Nat.add_zero] at hf;rw[Instr.fill,hp];have c1:¬ (vs.toArray.size≠size\/off+vs.toArray.size > cells.toArray.size):=by simp;omega
 simp only[hv];rw[AE (by simpa using c1)];congr 1;rw[<- hf];simp
theorem W8(W:E)(n:Int)(b:List Int)(hb:b.length=256):(Instr.build 130 #[(0,Y I n),(1,BD (cB b).toArray)]).run Ae W=.ok (BD (Y I n :: cB b).toArray) W:=by
 refine run_build W 130 _ _ ?_;have hz:=Fw;have cA:=CI b;obtain⟨it,h2,h3,h4,h5⟩:=By bH;have hu:Ae.underlying 130=_:=Tryz.underlying130;unfold Program.built;rw[h2,hu];simp only[h3];generalize hm:(List.mapM (m:=Option) _ _:Option (List (Nat × Nat)))=m;have hm':m=H [(0,1),(1,256)]:=by rw[<- hm];kernel_rfl
 subst hm';clear hm;show Instr.fill _ (Y I 0 :: zB).toArray _=_
 rw[Ow _ _ 0 0 1 (Y I n) [Y I n] _ rfl rfl rfl (by rw[Ch];omega),
  show splice (Y I 0 :: zB) 0 [Y I n]=Y I n :: zB from rfl,
  Ow _ _ 1 1 256 (BD (cB b).toArray) (cB b) _ rfl rfl (by rw[cA,hb]) (by rw[Ch];omega),
  show splice (Y I n :: zB) 1 (cB b)=Y I n :: splice zB 0 (cB b) by simp only[splice];rw[Nat.add_comm 1];simp,EW _ _ (by rw[cA,hb,hz])]
 rfl
theorem Xt(W:E)(cs:List X)(hc:cs.length=257):(Instr.buildSlice 100 1 #[(0,BD cs.toArray)]).run Ae W=.ok (Ak (H ⟨W.heap.size,0,J⟩) 1 1) (W.alloc (d cs.toArray 130)):=by
 have hz:=Fw;obtain⟨i,h2,h3,h4,h5⟩:=By bH;refine run_buildSlice W 100 130 1 _ cs.toArray i (BD (Y I 0 :: zB).toArray) Tryz.underlying100 h2 h3 (by rw[h4];decide) (by rw[h4];decide) ?_;rw[h4];generalize hA:Array.map _ _=A;have hs:A.toList.length=257:=by rw[<- hA];simp
 obtain⟨L,rfl⟩:∃ L:List X,A=L.toArray:=⟨A.toList,by simp⟩;clear hA
 rw[show(#[((0:Nat),X.agg cs.toArray)]:Array (Nat × X)).toList=[(0,BD cs.toArray)] from rfl,Ow _ _ 0 0 257 (BD cs.toArray) cs _ rfl rfl hc (by simpa using Nat.le_of_eq hs.symm),
  EW _ _ (by rw[hc];exact hs.symm)]
 rfl
section
variable {w:E}{B bp bf bv:Nat}{u:X}{F V:List (List Int)}{U:List (Nat × List Int)}{fu dn:Bool}{le:Int}
theorem DskAt.setV(h:DskAt w B bp bf bv u F V U fu le dn){W:E}(hw:At w.heap.size w W)(n:Nat)(hn:n<V.length)(b:List Int)(hb:XR b):
 DskAt (W.setCells bv (n*256) (cB b)) B bp bf bv u F (V.set n b) U fu le dn/\Wrote W (W.setCells bv (n*256) (cB b)) bv:=by
 have h':=h.below hw;have hl:=CI b;have cC:=CK (EH h.okV);have e:=DH (vs:=cB b) h'.hv (o:=n*256) (by rw[hl,hb.1,cC];omega) (Hd b);rw[G4 (EH h.okV) n hn b (by rw[hl,hb.1])] at e;rw[e];have hwr:=Wrote.setRow W bv ((V.set n b).flatMap cB).toArray;have key:∀ {g:Nat} {o:Obj},g≠bv->W.heap[g]? =H o->(W.setRow bv ((V.set n b).flatMap cB).toArray).heap[g]? =H o:=fun hg hh=>by
  rw[hwr.2.2.2.2 _ hg];exact hh
 refine⟨⟨h.bB,h.ne,by rw[AJ];exact key h.ne.2.1 h'.hp,key h.ne.2.2 h'.hf,Cr _ _ _ _ _ _ h'.hv,⟨h.hu.1,?_⟩,h.une,h.okF,?_,fun x hx=>by rw[AJ];exact h.okU x hx,by rw[AJ];exact h.len,by rw[AJ];exact h.max⟩,hwr⟩
 . rcases h'.hu.2 with h0| ⟨g,cap,cur,hv,hg,hh,r⟩
   . exact AN h0
   . exact Ba ⟨g,cap,cur,hv,hg,key (fun e=>h.une.2.2 (by rw[hv,<- e];rfl)) hh,r⟩
 . intro x hx
   rcases Dr hx with hx|rfl
   . exact h.okV x hx
   . exact hb
end
end
section
open Go.RowKit
theorem DskAt.pushU{w:E}{B bp bf bv:Nat}{u:X}{F V:List (List Int)}{U:List (Nat × List Int)}{fu dn:Bool}{le:Int}(h:DskAt w B bp bf bv u F V U fu le dn){W w3:E}(hw:At w.heap.size w W)(hB:B<=w.heap.size)
 (hgrow:W.grownBy w3 u.ownBlock) (g cap:Nat) (x:Nat × List Int) (hx:x.1<V.length/\XR x.2) (hown:w3.ownsRow B 130 257 (Ak (H ⟨g,0,J⟩) (U.length+1) cap) (U.length+1) (U.flatMap cU ++ cU x)) (Ha:u.ownBlock=H g\/g=W.heap.size):
 DskAt (w3.setCell ⟨bp,2,J⟩ (Ak (H ⟨g,0,J⟩) (U.length+1) cap)) B bp bf bv (Ak (H ⟨g,0,J⟩) (U.length+1) cap) F V (U ++ [x]) fu le dn/\At B w (w3.setCell ⟨bp,2,J⟩ (Ak (H ⟨g,0,J⟩) (U.length+1) cap)):=by
 have h':=h.below hw;have l1:=(Al.1 h'.hp).1;have l2:=(Al.1 h'.hf).1;have l3:=(Al.1 h'.hv).1;have n1:=h.une;have key:∀ {k:Nat} {o:Obj},H k≠u.ownBlock->W.heap[k]? =H o->w3.heap[k]? =H o:=fun hk hh=>by
  rw[hgrow.block _ (Al.1 hh).1 hk];exact hh
 have gne:g≠bp/\g≠bf/\g≠bv:=by
  rcases Ha with Ha|Ha
  . rw[Ha] at n1
    exact⟨fun e=>n1.1 (by rw[e]),fun e=>n1.2.1 (by rw[e]),fun e=>n1.2.2 (by rw[e])⟩
  . omega
 have hne:=h.ne;have oth:∀ {k:Nat},k≠bp->(w3.setCell ⟨bp,2,J⟩ (Ak (H ⟨g,0,J⟩) (U.length+1) cap)).heap[k]? =w3.heap[k]? :=fun hk=>Bq _ _ _ _ hk
 have tE:(U ++ [x]).flatMap cU=U.flatMap cU ++ cU x:=by simp
 have hln:(U ++ [x]).length=U.length+1:=by simp
 refine⟨⟨h.bB,h.ne,?_,?_,?_,?_,?_,h.okF,h.okV,?_,h.len,h.max⟩,?_⟩
 . have:=Bs w3 bp 2 _ _ (Ak (H ⟨g,0,J⟩) (U.length+1) cap) (key (CR n1.1) h'.hp)
   simpa using this
 . rw[oth (CR hne.1)];exact key (CR n1.2.1) h'.hf
 . rw[oth (CR hne.2.1)];exact key (CR n1.2.2) h'.hv
 . rw[tE,hln]
   refine⟨hown.1,?_⟩;rcases hown.2 with⟨h0,_⟩| ⟨g',cap',cur,hv,hg,hh,r⟩
   . simp at h0
   . simp only[Ak.injEq,Option.some.injEq,Addr.mk.injEq,and_true,true_and] at hv
     obtain⟨rfl,rfl⟩:=hv;exact Ba ⟨g,cap,cur,rfl,hg,by rw[oth gne.1];exact hh,r⟩
 . refine⟨fun e=>gne.1 (by simpa [X.ownBlock] using e),fun e=>gne.2.1 (by simpa [X.ownBlock] using e),fun e=>gne.2.2 (by simpa [X.ownBlock] using e)⟩
 . intro y hy
   rcases C0.1 hy with hy|hy
   . exact h.okU y hy
   . obtain rfl:=Et.1 hy;exact hx
 . refine At.setCell (((hw.mono hB)).grown hgrow (AT hB hw.size) fun k hk=>(h.hu.lt k hk).1) (by exact h.bB.1) _
attribute [-go_sem] Instr.build Instr.buildSlice loadCellsFrom
end
section
open Go.RowKit
def Sk(kp:Nat->Bool)(U:List (Nat × List Int))(F:List (List Int)):Nat->List (List Int)
 |0=>F
 |k+1=>if kp k then (Sk kp U F k).set (U.getD k (0,[])).1 (U.getD k (0,[])).2 else Sk kp U F k
def Zx(U:List (Nat × List Int))(F1 V:List (List Int)):Nat->List (List Int)
 |0=>V
 |k+1=>(Zx U F1 V k).set (U.getD k (0,[])).1 (F1.getD (U.getD k (0,[])).1 [])
theorem RD(kp:Nat->Bool)(U:List (Nat × List Int))(F:List (List Int)):∀ k,(Sk kp U F k).length=F.length
 |0=>rfl
 |k+1=>by
  have:=RD kp U F k;unfold Sk;split
  . rw[AJ,this]
  . exact this
theorem Io(U:List (Nat × List Int))(F1 V:List (List Int)):∀ k,(Zx U F1 V k).length=V.length
 |0=>rfl
 |k+1=>by
  have:=Io U F1 V k;unfold Zx;rw[AJ,this]
structure Frm (w W:E) (g1 g2:Nat):Prop where
 os:W.os=w.os
 tape:W.tape=w.tape
 output:W.output=w.output
 size:w.heap.size<=W.heap.size
 block:∀ k,k<w.heap.size->k≠g1->k≠g2->W.heap[k]? =w.heap[k]?
theorem Frm.refl(w:E)(g1 g2:Nat):Frm w w g1 g2:=⟨rfl,rfl,rfl,AB _,fun _ _ _ _=>rfl⟩
theorem Frm.below{w W:E}{g1 g2 B:Nat}(h:Frm w W g1 g2)(h1:B<=g1)(h2:B<=g2)(hB:B<=w.heap.size):At B w W:=
 ⟨h.os,h.tape,h.output,h.size,fun k hk=>h.block k (by omega) (by omega) (by omega)⟩
theorem Frm.trans{a b c:E}{g1 g2:Nat}(h:Frm a b g1 g2)(k:Frm b c g1 g2):Frm a c g1 g2:=
 ⟨k.os.trans h.os,k.tape.trans h.tape,k.output.trans h.output,AT h.size k.size,fun i hi h1 h2=>(k.block i (AH hi h.size) h1 h2).trans (h.block i hi h1 h2)⟩
theorem Frm.of_below{w W:E}{g1 g2:Nat}(h:At w.heap.size w W):Frm w W g1 g2:=⟨h.os,h.tape,h.output,h.size,fun k hk _ _=>h.block k hk⟩
theorem Frm.of_wrote{w W:E}{g1 g2:Nat}(h:Wrote w W g1):Frm w W g1 g2:=⟨h.1,h.2.1,h.2.2.1,Nat.le_of_eq h.2.2.2.1.symm,fun k _ h1 _=>h.2.2.2.2 k h1⟩
theorem Frm.of_wrote2{w W:E}{g1 g2:Nat}(h:Wrote w W g2):Frm w W g1 g2:=⟨h.1,h.2.1,h.2.2.1,Nat.le_of_eq h.2.2.2.1.symm,fun k _ _ h2=>h.2.2.2.2 k h2⟩
structure Fr3 (w W:E) (g1 g2 g3:Nat):Prop where
 os:W.os=w.os
 tape:W.tape=w.tape
 output:W.output=w.output
 size:w.heap.size<=W.heap.size
 block:∀ k,k<w.heap.size->k≠g1->k≠g2->k≠g3->W.heap[k]? =w.heap[k]?
theorem Fr3.set{w W:E}{g2 g3:Nat}(h:Frm w W g2 g3)(g1 i:Nat)(x:X):Fr3 w (W.setCell ⟨g1,i,J⟩ x) g1 g2 g3:=
 ⟨h.os,h.tape,h.output,by simp[E.setCell];exact h.size,fun k hk h1 h2 h3=>by rw[Bq _ _ _ _ h1];exact h.block k hk h2 h3⟩
section
variable {w:E}{B bp bf bv:Nat}{u:X}{F V:List (List Int)}{U:List (Nat × List Int)}{fu dn:Bool}{le:Int}
theorem DskAt.setF(h:DskAt w B bp bf bv u F V U fu le dn){W:E}(hw:At w.heap.size w W)(n:Nat)(hn:n<F.length)(b:List Int)(hb:XR b):
 DskAt (W.setCells bf (n*256) (cB b)) B bp bf bv u (F.set n b) V U fu le dn/\Wrote W (W.setCells bf (n*256) (cB b)) bf:=by
 have h':=h.below hw;have hl:=CI b;have cC:=CK (EH h.okF);have e:=DH (vs:=cB b) h'.hf (o:=n*256) (by rw[hl,hb.1,cC];omega) (Hd b);rw[G4 (EH h.okF) n hn b (by rw[hl,hb.1])] at e;rw[e];have hwr:=Wrote.setRow W bf ((F.set n b).flatMap cB).toArray;have key:∀ {g:Nat} {o:Obj},g≠bf->W.heap[g]? =H o->(W.setRow bf ((F.set n b).flatMap cB).toArray).heap[g]? =H o:=fun hg hh=>by
  rw[hwr.2.2.2.2 _ hg];exact hh
 refine⟨⟨h.bB,h.ne,by rw[AJ];exact key h.ne.1 h'.hp,Cr _ _ _ _ _ _ h'.hf,key (CR h.ne.2.2) h'.hv,⟨h.hu.1,?_⟩,h.une,?_,h.okV,h.okU,by rw[AJ];exact h.len,h.max⟩,hwr⟩
 . rcases h'.hu.2 with h0| ⟨g,cap,cur,hv,hg,hh,r⟩
   . exact AN h0
   . exact Ba ⟨g,cap,cur,hv,hg,key (fun e=>h.une.2.1 (by rw[hv,<- e];rfl)) hh,r⟩
 . intro x hx
   rcases Dr hx with hx|rfl
   . exact h.okF x hx
   . exact hb
theorem DskAt.noU(h:DskAt w B bp bf bv u F V U fu le dn):DskAt (w.setCell ⟨bp,2,J⟩ (Ak J 0 0)) B bp bf bv (Ak J 0 0) F V [] fu le dn:=by
 have oth:∀ {k:Nat},k≠bp->(w.setCell ⟨bp,2,J⟩ (Ak J 0 0)).heap[k]? =w.heap[k]? :=fun hk=>Bq _ _ _ _ hk
 refine⟨h.bB,h.ne,?_,?_,?_,⟨rfl,AN ⟨rfl,rfl⟩⟩,⟨by simp[X.ownBlock],by simp[X.ownBlock],by simp[X.ownBlock]⟩,h.okF,h.okV,fun x hx=>by simp at hx,h.len,h.max⟩
 . have:=Bs w bp 2 _ _ (Ak J 0 0) h.hp
   simpa using this
 . rw[oth (CR h.ne.1)];exact h.hf
 . rw[oth (CR h.ne.2.1)];exact h.hv
theorem DskAt.rangeU(h:DskAt w B bp bf bv u F V U fu le dn)(i:Nat)(hi:i<U.length):∃ g cap,u=Ak (H ⟨g,0,J⟩) U.length cap/\g<w.heap.size/\w.rangeAt g (i*257) (cU U[i]):=by
 have cC:=CK (Tc fun x hx=>(h.okU x hx).2);rcases h.hu.2 with⟨_,h0⟩| ⟨g,cap,cur,hv,hg,hh,h1,h2,h3,h4⟩
 . omega
 . have hc:=Ti U[i]
   have hb:=(h.okU U[i] (Bf _)).2.1;have hu:=Gw (Tc fun x hx=>(h.okU x hx).2) i hi;refine⟨g,cap,hv,(Al.1 hh).1,EE (cur:=cur.toList) (by simpa using hh) ?_⟩;rw[hc,hb,<- h4,List.drop_take,List.take_take] at*
   rw[<- hu];congr 1;have:(i+1)*257<=U.length*257:=Nat.mul_le_mul_right _ hi;rw[Nat.succ_mul] at this;omega
end
theorem po:(Ae.info? 130).map (·.size)=H 257:=by kernel_rfl
theorem I8(w:E){ops:Array BS}{rest:List BS}{o:BS}{a:Act}{Q:Exit->Act->E->Prop}(hg:o.guard=J)(Mr:o.op=Op.alloc 130)
 (hK:Cn Ae ops Q rest (a.put o.dst (Am (H ⟨w.heap.size,0,J⟩))) (w.alloc (d (Y I 0 :: zB).toArray 130))):Cn Ae ops Q (o :: rest) a w:=by
 refine CM hg fun K hK'=>?_
 have hz:=(zero_of_info (v:=BD (Y I 0 :: zB).toArray) (n:=257) (t:=130) (P:=Ae) (by
  obtain⟨i,h2,h3,h4,h5⟩:=By bH;simp[h2,h3,h4])).1 w
 unfold BS.wp execOp;simp only[Mr,Instr.alloc,newVar,newRow,DE,hz,Result.andThen_ok,X.cells];exact hK' _ _ hK
theorem J4(w:E){ops:Array BS}{rest:List BS}{o:BS}{a:Act}{Q:Exit->Act->E->Prop}(hg:o.guard=J)(x:Operand)(Mr:o.op=Op.load 130 x)
 (g off:Nat) (cells:List X) (hx:a.eval x=Am (H ⟨g,off,J⟩)) (hr:w.rangeAt g off cells) (hc:cells.length=257)
 (hK:Cn Ae ops Q rest (a.put o.dst (BD cells.toArray)) w):Cn Ae ops Q (o :: rest) a w:=
 wpList_load_mid hg 130 x Mr g off hx cells _ hr Tryz.underlying130 rfl (by rw[po,hc]) hK
theorem Jc(w:E){ops:Array BS}{rest:List BS}{o:BS}{a:Act}{Q:Exit->Act->E->Prop}(hg:o.guard=J)(x y:Operand)(Mr:o.op=Op.store 130 x y)
 (g:Nat) (t:TypeId) (old cells:List X) (hx:a.eval x=Am (H ⟨g,0,J⟩)) (hy:a.eval y=BD cells.toArray) (hh:w.heap[g]? =H (d old.toArray t (0,0))) (ho:old.length=257) (hc:cells.length=257) (h1:∀ v∈cells,v.oneCell'=AL)
 (hK:Cn Ae ops Q rest (a.put o.dst undef) (w.setRow g cells.toArray)):Cn Ae ops Q (o :: rest) a w:=
 Do hg 130 x y Mr g cells.toArray hx hy t old.toArray hh (by rw[po];simp[hc]) (by simp[ho,hc]) (Dv h1) hK
end
end Go.Proofs.YtdefiimcmecnnaaGreat
