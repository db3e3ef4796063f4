/- What the law rests on: part 3. -/
import Derived.RegionTactic
import Derived.BigRegion
import Derived.Deep.RegionHeld3
import Derived.Laws.ResultCell
import Derived.Laws.Tables
import Derived.Laws.Rows
import Derived.Deep.Slices
import Derived.Deep.Fields
import Derived.ProofKit
import Derived.Test.YtedabomlfcghoaaGreatKG2
set_option linter.unusedVariables false
namespace Go.Proofs.YtedabomlfcghoaaGreat
set_option maxRecDepth 100000
open Go.RowKit
def SealOut(l:List Int)(w:World)(e:Ending)(w':World):Prop:=
 ∃ v,e=.returned (.tuple #[v,.int .i64 0])/\OB w' w.heap.size v (Zal l)/\Below w.heap.size w w'
theorem pSum_c{w0 w:World}{v:Value}{l:List Int}(hs:BSl w0 v l)(hk:Below w0.heap.size w0 w)(hl:l.length<=140737488355300)(S:Int)(hS:S=sumS l):
 Calls Tryz.prog 186 #[v] w fun e w'=>e=.returned (.int .u32 S)/\w=w':=by rw[hS];exact pSum_any (hs.below hk) hl
theorem pPut4{w:World}{v:Value}{l:List Int}(hs:BSl w v l)(hl:l.length=252)(S:Int)(hS:S=sumS l):
 Calls Tryz.prog 177 #[v,.int .u64 S,.int .i64 4] w (NewB w (l ++ lowB (sumS l) 4)):=by
 have hb:=Zdp l;rw[hS];exact Zfq hs (by omega) _ 4 4 (by omega) (by omega) rfl hb.1 (by omega)
theorem rPut4{w:World}{v:Value}{l:List Int}(hs:BSl w v l)(hl:l.length=252)(S:Int)(hS:S=sumS l):
 Calls Tryz.prog 127 #[v,.int .u64 S,.int .i64 4] w (NewB w (l ++ lowB (sumS l) 4)):=by
 have hb:=Zdp l;rw[hS];exact Zhx hs (by omega) _ 4 4 (by omega) (by omega) rfl hb.1 (by omega)
theorem Zju{w:World}{v:Value}{l:List Int}(hs:BSl w v l)(hl:l.length<=252):Calls Tryz.prog 184 #[v] w (SealOut l w):=by
 obtain⟨ao,cap,rfl,hcap⟩:=hs.shape;obtain⟨M,hMM⟩:∃ M:Nat,M=252:=⟨_,rfl⟩;have hMI:(252:Int)=(M:Int):=by omega
 have hby:=hs.1;have hpos:=Zeq hs (w1:=w.alloc (.cells (Array.replicate M (.int .u8 0)) 5)) (fun p hp=>World.cell?_alloc_lt w _ p hp) l.length;rw[List.take_length] at hpos;have hf1:=Zcd l hl;obtain⟨F,hF⟩:∃ F,F=Zcq l:=⟨_,rfl⟩;obtain⟨S,hS⟩:∃ S,S=sumS F:=⟨_,rfl⟩;have hSb:=Zdp F;rw[<- hS] at hSb;have hFs:Zal l=F ++ lowB (sumS F) 4:=by rw[hF];rfl
 rw[<- hF] at hf1;obtain⟨N,hN⟩:∃ N,N=l.length:=⟨_,rfl⟩;rw[<- hN] at hl hcap |-
 have hg2:(w.alloc (.cells (Array.replicate M (.int .u8 0)) 5)).heap[w.heap.size]? =some (.cells (List.replicate M (Value.int .u8 0)).toArray 5 (0,0)):=by
  rw[heap_alloc_new];simp
 have hcl:(l.map (Value.int .u8)).length=N:=by rw[List.length_map,<- hN]
 have hmm:N=Nat.min N M:=(Nat.min_eq_left (by omega)).symm;have hfit:0+(l.map (Value.int .u8)).length<=(List.replicate M (Value.int .u8 0)).length:=by rw[List.length_map,<- hN,hMM];rw[List.length_replicate];omega
 have HN:=hid hN;have HMM:=hid hMM;have HMI:=hid hMI;have hMle:M<=200000000000000:=by omega
 have hNM:N<=M:=by omega
 have HG:=hid hg2;have HC:=hid hcl;have HM:=hid hmm;have HF:=hid hfit;have HP:=hid hpos;have HBY:=hid hby;have HFF:=hid hF;have HSS:=hid hS;have HF1:=hid hf1;have HFS:=hid hFs;have hbl:Below w.heap.size w (w.alloc (.cells (Array.replicate M (.int .u8 0)) 5)):=(Below.refl _ _).alloc (Nat.le_refl _) _;clear hN hg2 hcl hmm hfit hpos hby hs hF hS hf1 hFs hMM hMI;go_enter Tryz.func184,Tryz.ntmps184
 go_wp2_with (first
  |(at_make;refine Zay _ rfl _ _ rfl _ M rfl rfl HMI.out hMle ?_)
  |(with_reducible refine Zbc rfl _ _ 30 30 rfl 5 Tryz.underlying30 (by kernel_rfl) _ _ _ _ _ _ rfl rfl w.heap.size 0 (List.replicate M (Value.int .u8 0)) 5 HG.out (l.map (Value.int .u8)) N HC.out HM.out (fun h=>⟨rfl,HP.out h⟩) HF.out (ints_oneCell _ _) ?_
    intro w2 HG3 HW2;have hb2:Below w.heap.size w w2:=hbl.trans (HW2.below (Nat.le_refl _));have hob:OB w2 w.heap.size (.slice (some ⟨w.heap.size,0,none⟩) M M) F:=by
     have h3:=HG3.out;have h4:splice (List.replicate M (Value.int .u8 0)) 0 (l.map (Value.int .u8))=F.map (Value.int .u8) ++ []:=by
      rw[HFF.out,Zcq,HMM.out.symm];simp[splice,<- HN.out]
     rw[h4] at h3;have h5:=OB.of_heap (cap:=M) (rest:=[]) (l:=F) (B:=w.heap.size) (by rw[HFF.out];exact Zdc HBY.out (Zba _)) (Nat.le_refl _) h3 (by rw[HF1.out,HMM.out];rfl) (by rw[HMM.out];decide);rw[HF1.out,<- HMM.out] at h5;exact h5
    clear HG3 HW2)
  |(go_at_call 186;refine(pSum_c hob.bsl (Below.refl _ _) (by rw[HF1.out];omega) S HSS.out).mono ?_;rintro e w' ⟨rfl,rfl⟩)
  |(go_at_call 177;refine(pPut4 hob.bsl HF1.out S HSS.out).mono ?_;rintro e w3 ⟨v3,rfl,hob3,hb3⟩))
 go_ret2;refine⟨v3,rfl,?_,hb2.trans (hb3.mono hb2.size)⟩;rw[HFS.out];exact hob3.more hb2.size
theorem rSeal_yes{w:World}{v:Value}{l:List Int}(hs:BSl w v l)(hl:l.length<=252):Calls Tryz.prog 129 #[v] w (SealOut l w):=by
 obtain⟨ao,cap,hv,hcap⟩:=hs.shape;have hf1:=Zcd l hl;obtain⟨F,hF⟩:∃ F,F=Zcq l:=⟨_,rfl⟩;obtain⟨S,hS⟩:∃ S,S=sumS F:=⟨_,rfl⟩;have hSb:=Zdp F;rw[<- hS] at hSb;have hFs:Zal l=F ++ lowB (sumS F) 4:=by rw[hF];rfl
 rw[<- hF] at hf1;have hlen:([]:List Int).length+l.length<=140737488355328:=by simp;omega
 obtain⟨N,hN⟩:∃ N,N=l.length:=⟨_,rfl⟩;rw[<- hN] at hl hv;subst hv;have HN:=hid hN;have HS:=hid hs;have HL:=hid hlen;have HFF:=hid hF;have HSS:=hid hS;have HF1:=hid hf1;have HFS:=hid hFs;have hsub:(252:Int)-N=((252-N:Nat):Int):=by omega
 have HSU:=hid hsub;clear hN hs hF hS hf1 hFs hlen hsub;go_enter Tryz.func129,Tryz.ntmps129
 go_wp2_with (first
  |(at_builtin;(refine Zah _ rfl (.tmp 8) (.tmp 9) rfl w.heap.size _ [] rfl (ob_empty w) w _ l rfl HS.out (fun p hp=>World.cell?_alloc_lt w _ p hp) HL.out (by simp) ?_);intro v2 w2 hob2 hb2 _;rw[List.nil_append] at hob2
    have hbe:Below w.heap.size w w2:=((Below.refl _ _).alloc (Nat.le_refl _) _).trans hb2)
  |(at_builtin;(refine Zeo _ rfl (.tmp 10) (.tmp 13) rfl w.heap.size _ l rfl hob2 _ (252-N) rfl HSU.out (by rw[<- HN.out];omega) hbe.size ?_);intro v3 w3 hob3 hb3
    have hbf:Below w.heap.size w w3:=hbe.trans hb3;rw[HN.out,show l ++ List.replicate (252-l.length) 0=Zcq l from rfl,<- HFF.out] at hob3)
  |(go_at_call 168;refine(rSum_any hob3.bsl (by rw[HF1.out];omega)).mono ?_;rw[<- HSS.out];rintro e w' ⟨rfl,rfl⟩)
  |(go_at_call 127;refine(rPut4 hob3.bsl HF1.out S HSS.out).mono ?_;rintro e w4 ⟨v4,rfl,hob4,hb4⟩))
 go_ret2;refine⟨v4,rfl,?_,hbf.trans (hb4.mono hbf.size)⟩;rw[HFS.out];exact hob4.more hbf.size
theorem BSl.take{w:World}{a:Addr}{cap:Nat}{l:List Int}(h:BSl w (.slice (some a) l.length cap) l)(n:Nat)(hn:n<=l.length):BSl w (.slice (some a) n cap) (l.take n):=by
 refine⟨Zbs h.1 n,.inr ⟨a,cap,by rw[List.length_take,Nat.min_eq_left hn],?_,fun j hj=>?_⟩⟩
 . rcases h.2 with⟨hv,_⟩| ⟨_,_,hv,hc,_⟩
   . simp at hv
   . obtain⟨_,rfl⟩:_/\_:=by simpa using hv
     rw[List.length_take];omega
 . rw[List.length_take,Nat.min_eq_left hn] at hj
   rcases h.2 with⟨hv,_⟩| ⟨a',c',hv,_,hc⟩
   . simp at hv
   . obtain⟨rfl,rfl⟩:a=a'/\cap=c':=by simpa using hv
     obtain⟨h1,h2,h3⟩:=hc j (by omega);exact⟨h1,h2,by rw[h3];simp[List.getD_eq_getElem?_getD,hj]⟩
def OpenOut(l:List Int)(w:World)(e:Ending)(w':World):Prop:=
 (Zei l/\∃ v,e=.returned (.tuple #[v,.bool true])/\OB w' w.heap.size v (l.take 252)/\Below w.heap.size w w')\/
 (¬ Zei l/\e=.returned (.tuple #[.slice none 0 0,.bool false])/\Below w.heap.size w w')
theorem pOpen_len{w:World}{ao:Option Addr}{len cap:Nat}(h:len≠256):
 Calls Tryz.prog 150 #[.slice ao len cap] w fun e w'=>e=.returned (.tuple #[.slice none 0 0,.bool false])/\w=w':=by
 have hne:((len:Int) != 256)=true:=by simp;omega
 go_enter Tryz.func150,Tryz.ntmps150;go_wp2_with fail
 go_ret2;exact⟨rfl,rfl⟩
theorem pGet4{w:World}{b off cap:Nat}{l:List Int}(hs:BSl w (.slice (some ⟨b,off,none⟩) 256 cap) l)(hl:l.length=256)(G:Int)(hG:G=getV l 252 4):
 Calls Tryz.prog 144 #[.slice (some ⟨b,off,none⟩) 256 cap,.int .i64 252,.int .i64 4] w fun e w'=>e=.returned (.tuple #[.int .u64 G,.bool true])/\w=w':=by
 rcases hs.2 with⟨hv,_⟩| ⟨a',c',hv,_,hc⟩
 . simp at hv
 . obtain⟨rfl,_,rfl⟩:_/\_/\_:=by simpa using hv
   have:=pGet_at (w:=w) (b:=b) (off:=off) (cap:=cap) hs.1 (by omega) (fun j hj=>(hc j hj).2.2) 252 4 (by omega) (by omega) (by omega);rw[hl] at this;rw[hG];exact this
theorem pOpen_no{w:World}{b off cap:Nat}{l:List Int}(hs:BSl w (.slice (some ⟨b,off,none⟩) 256 cap) l)(hl:l.length=256)(hcap:256<=cap)(hne:getV l 252 4≠sumS (l.take 252)):
 Calls Tryz.prog 150 #[.slice (some ⟨b,off,none⟩) 256 cap] w fun e w'=>e=.returned (.tuple #[.slice none 0 0,.bool false])/\w=w':=by
 have ht:BSl w (.slice (some ⟨b,off,none⟩) 252 cap) (l.take 252):=BSl.take (by rw[hl];exact hs) 252 (by omega);have hbd:=Zcz (Zbo hs.1) 252 4;have hSb:=Zdp (l.take 252);have htl:(l.take 252).length<=140737488355300:=by rw[List.length_take];omega
 obtain⟨G,hG⟩:∃ G,G=getV l 252 4:=⟨_,rfl⟩;obtain⟨S,hS⟩:∃ S,S=sumS (l.take 252):=⟨_,rfl⟩;rw[<- hG] at hbd hne;rw[<- hS] at hSb hne;have hne':(G != S)=true:=by simpa using hne
 have hG1:G<4294967296:=by simpa using hbd.2
 have hG0:=hbd.1;have HS:=hid hs;have HT:=hid ht;have HG:=hid hG;have HSS:=hid hS;have HL:=hid hl;have HTL:=hid htl;clear hs ht hG hS hl htl hbd;go_enter Tryz.func150,Tryz.ntmps150
 go_wp2_with (first
  |(go_at_call 144;refine(pGet4 HS.out HL.out G HG.out).mono ?_;rintro e w' ⟨rfl,rfl⟩)
  |(go_at_call 186;refine(pSum_c HT.out (Below.refl _ _) HTL.out S HSS.out).mono ?_;rintro e w' ⟨rfl,rfl⟩))
 go_ret2;exact⟨rfl,rfl⟩
theorem pOpen_yes{w:World}{b off cap:Nat}{l:List Int}(hs:BSl w (.slice (some ⟨b,off,none⟩) 256 cap) l)(hl:l.length=256)(hcap:256<=cap)(heq:getV l 252 4=sumS (l.take 252)):
 Calls Tryz.prog 150 #[.slice (some ⟨b,off,none⟩) 256 cap] w fun e w'=>∃ v,e=.returned (.tuple #[v,.bool true])/\OB w' w.heap.size v (l.take 252)/\Below w.heap.size w w':=by
 have ht:BSl w (.slice (some ⟨b,off,none⟩) 252 cap) (l.take 252):=BSl.take (by rw[hl];exact hs) 252 (by omega);have hSb:=Zdp (l.take 252);have htl:(l.take 252).length=252:=by rw[List.length_take];omega
 obtain⟨S,hS⟩:∃ S,S=sumS (l.take 252):=⟨_,rfl⟩;have hG:S=getV l 252 4:=by rw[hS,heq]
 rw[<- hS] at hSb;obtain⟨M,hMM⟩:∃ M:Nat,M=252:=⟨_,rfl⟩;have hMI:(252:Int)=(M:Int):=by omega
 have hpos:=Zeq hs (w1:=w.alloc (.cells (Array.replicate M (.int .u8 0)) 5)) (fun p hp=>World.cell?_alloc_lt w _ p hp) 252;have hg2:(w.alloc (.cells (Array.replicate M (.int .u8 0)) 5)).heap[w.heap.size]? =some (.cells (List.replicate M (Value.int .u8 0)).toArray 5 (0,0)):=by
  rw[heap_alloc_new];simp
 have hcl:((l.take 252).map (Value.int .u8)).length=M:=by rw[List.length_map,htl,hMM]
 have hmm:M=Nat.min 256 M:=(Nat.min_eq_right (by omega)).symm;have hfit:0+((l.take 252).map (Value.int .u8)).length<=(List.replicate M (Value.int .u8 0)).length:=by rw[List.length_map,htl,List.length_replicate];omega
 have hbl:Below w.heap.size w (w.alloc (.cells (Array.replicate M (.int .u8 0)) 5)):=(Below.refl _ _).alloc (Nat.le_refl _) _;have HMM:=hid hMM;have HMI:=hid hMI;have hMle:M<=200000000000000:=by omega
 have HS:=hid hs;have HT:=hid ht;have HG:=hid hG;have HSS:=hid hS;have HL:=hid hl;have HTL:=hid htl;have HP:=hid hpos;have HG2:=hid hg2;have HC:=hid hcl;have HM:=hid hmm;have HF:=hid hfit;clear hs ht hG hS hl htl heq hpos hg2 hcl hmm hfit hMM hMI;go_enter Tryz.func150,Tryz.ntmps150
 go_wp2_with (first
  |(go_at_call 144;refine(pGet4 HS.out HL.out S HG.out).mono ?_;rintro e w' ⟨rfl,rfl⟩)
  |(go_at_call 186;refine(pSum_c HT.out (Below.refl _ _) (by rw[HTL.out];omega) S HSS.out).mono ?_;rintro e w' ⟨rfl,rfl⟩)
  |(at_make;refine Zay _ rfl _ _ rfl _ M rfl rfl HMI.out hMle ?_)
  |(with_reducible refine Zbc rfl _ _ 30 30 rfl 5 Tryz.underlying30 (by kernel_rfl) _ _ _ _ _ _ rfl rfl w.heap.size 0 (List.replicate M (Value.int .u8 0)) 5 HG2.out ((l.take 252).map (Value.int .u8)) M HC.out HM.out (fun h=>⟨rfl,HP.out h⟩) HF.out (ints_oneCell _ _) ?_
    intro w2 HG3 HW2))
 go_ret2;refine⟨_,rfl,?_,hbl.trans (HW2.below (Nat.le_refl _))⟩;have h3:=HG3.out;rw[Zbw _ _ (by rw[HC.out,List.length_replicate])] at h3;have h5:=OB.of_heap (cap:=M) (rest:=[]) (l:=l.take 252) (B:=w.heap.size) (Zbs HS.out.1 _) (Nat.le_refl _) (by rw[List.append_nil];exact h3) (by rw[HTL.out,HMM.out];rfl) (by rw[HMM.out];decide);have e:(l.take 252).length=M:=by rw[HTL.out,HMM.out]
 rw[e] at h5;exact h5
theorem pOpen_any{w:World}{v:Value}{l:List Int}(hs:BSl w v l):Calls Tryz.prog 150 #[v] w (OpenOut l w):=by
 by_cases hl:l.length=256
 . rcases hs.2 with⟨_,rfl⟩| ⟨⟨b,off,spot⟩,cap,rfl,hcap,hc⟩
   . simp at hl
   . obtain rfl:spot=none:=(hc 0 (by omega)).2.1
     rw[hl] at hs hcap |-
     by_cases h:getV l 252 4=sumS (l.take 252)
     . exact(pOpen_yes hs hl hcap h).mono fun e w' ⟨v,h1,h2,h3⟩=>.inl ⟨⟨hl,h⟩,v,h1,h2,h3⟩
     . exact(pOpen_no hs hl hcap h).mono fun e w' ⟨h1,h2⟩=>.inr ⟨fun hh=>h hh.2,h1,by rw[<- h2];exact Below.refl _ _⟩
 . obtain⟨ao,cap,rfl,_⟩:=hs.shape
   exact(pOpen_len hl).mono fun e w' ⟨h1,h2⟩=>.inr ⟨fun hh=>hl hh.1,h1,by rw[<- h2];exact Below.refl _ _⟩
theorem pOpen_not{w:World}{v:Value}{l:List Int}(hs:BSl w v l)(h:¬ Zei l):Calls Tryz.prog 150 #[v] w fun e w'=>e=.returned (.tuple #[.slice none 0 0,.bool false])/\Below w.heap.size w w':=
 (pOpen_any hs).mono fun e w' ho=>ho.elim (fun h1=>absurd h1.1 h) fun h1=>h1.2
theorem Zjv{w:World}{v:Value}{l:List Int}(hs:BSl w v l)(h:Zei l):Calls Tryz.prog 150 #[v] w fun e w'=>∃ v,e=.returned (.tuple #[v,.bool true])/\OB w' w.heap.size v (l.take 252)/\Below w.heap.size w w':=
 (pOpen_any hs).mono fun e w' ho=>ho.elim (fun h1=>h1.2) fun h1=>absurd h h1.1
theorem take_len{l:List Int}(h:Zei l):(l.take 252).length=252:=by
 have:=h.1;rw[List.length_take];omega
end Go.Proofs.YtedabomlfcghoaaGreat
namespace Go.Proofs.YtedabomlfcghoaaGreat
set_option maxRecDepth 100000
open Go.RowKit BM
theorem pPut_nil(x:Int)(h0:0<=x)(h1:x<=65535)(w:World):Calls Tryz.prog 177 #[.slice none 0 0,.int .u64 x,.int .i64 2] w (NewB w (lowB x 2)):=
 Zfq (Zhd w) (by simp) x 2 2 (by omega) (by omega) rfl h0 (by omega)
theorem Zje(O:List (Int × Int))(k:Nat)(x y:Int)(hx:x=(O.getD k (0,0)).1)(hy:y=(O.getD k (0,0)).2):Zdq O (k+1)=Zdq O k ++ lowB x 2 ++ lowB y 2:=by
 rw[hx,hy];rfl
theorem grown_cell{w w':World}{row:Option Nat}(h:w.grownBy w' row)(b o:Nat)(hb:b<w.heap.size)(hne:∀ k,row=some k->k≠b):w'.cell? ⟨b,o,none⟩=w.cell? ⟨b,o,none⟩:=by
 apply World.cell?_of_block;exact h.block b hb (fun e=>hne b e.symm rfl)
theorem grAll_is{w:World}{v:Value}{O:List (Int × Int)}(hs:OwSl w v O)(B:Bool)(h:allO O=B):Calls Tryz.prog 145 #[v] w fun e w'=>e=.returned (.bool B)/\Below w.heap.size w w':=by
 rw[<- h];exact grAll_any hs
theorem Ziq{O:List (Int × Int)}(h:allO O=true):O.length=64:=by
 unfold allO at h;rw[Bool.and_eq_true] at h;exact of_decide_eq_true h.1
theorem ob_make(w:World)(M:Nat)(hM:M<=1000):OB (w.alloc (.cells (Array.replicate M (.int .u8 0)) 5)) w.heap.size (.slice (some ⟨w.heap.size,0,none⟩) 0 M) []:=by
 have h:=OB.of_heap (w:=w.alloc (.cells (Array.replicate M (.int .u8 0)) 5)) (B:=w.heap.size) (g:=w.heap.size) (cap:=M) (l:=[]) (rest:=List.replicate M (.int .u8 0)) Zfb (Nat.le_refl _) (by rw[heap_alloc_new];simp) (by simp) (by unfold maxLen;omega);exact h
set_option maxHeartbeats 1000000 in
theorem grPage_yes{w:World}{v:Value}{O:List (Int × Int)}(hs:OwSl w v O)(h:allO O=true):Calls Tryz.prog 214 #[v] w fun e w'=>∃ v,e=.returned (.tuple #[v,.int .i64 0])/\OB w' w.heap.size v (Zcs O)/\Below w.heap.size w w':=by
 have hO:=Ziq h;have HA:=hid (grAll_is hs true h);obtain⟨b,off,cap,rfl,hb,hc⟩:=hs.at (by omega);obtain⟨M,hMM⟩:∃ M:Nat,M=256:=⟨_,rfl⟩;have hMI:(256:Int)=(M:Int):=by omega
 have HBB:=hid hs.1;have HC:=hid hc;have HO:=hid hO;have HMI:=hid hMI;have hM1:M<=1000:=by omega
 have hpo:Zcs O=Zdq O 64:=by unfold Zcs;rw[hO]
 have HPO:=hid hpo;rw[hO] at HA |-
 clear hs h hc hO hMM hMI hpo;go_enter Tryz.func214,Tryz.ntmps214
 go_wp2_with (first
  |(go_at_call 145;refine HA.out.mono ?_;rintro e w2 ⟨rfl,hb2⟩)
  |(at_make;refine Zbn _ rfl _ _ rfl 0 256 0 M rfl rfl rfl HMI.out (Nat.zero_le _) (by omega) ?_))
 have hob3:=ob_make w2 M hM1;have hb3:Below w2.heap.size w2 (w2.alloc (.cells (Array.replicate M (.int .u8 0)) 5)):=Zaa _ _;generalize w2.alloc (.cells (Array.replicate M (.int .u8 0)) 5)=w3 at hob3 hb3 |-
 have hbw3:Below w.heap.size w w3:=hb2.trans (hb3.mono hb2.size);have hob3':=hob3.more (B':=w.heap.size) hb2.size;have HOB3:=hid hob3';clear hob3 hob3' hb3;go_loopw [4,13] (fun u i wr=>∃ k:Nat,k<=64/\i=.int .i64 k/\Hid (OB wr w.heap.size u (Zdq O k))/\Below w.heap.size w wr) (fun _ i _=>64-(intOf i).toNat)
 case atStart=>exact⟨0,by omega,rfl,HOB3,hbw3⟩
 case round=>
  obtain⟨k,hk,rfl,HOB,hbr⟩:=hrel;clear HOB3 hbw3;by_cases hlt:k<64
  . have hck:=HC.out k (by rw[HO.out];exact hlt)
    have hbd:=HBB.out k;obtain⟨x,hx⟩:∃ x,x=(O.getD k (0,0)).1:=⟨_,rfl⟩;obtain⟨y,hy⟩:∃ y,y=(O.getD k (0,0)).2:=⟨_,rfl⟩;rw[<- hx,<- hy] at hck hbd;have c1:=(hbr.cell (p:=⟨b,off+k*2,none⟩) hb).trans hck.1;have c2:=(hbr.cell (p:=⟨b,off+k*2+1,none⟩) hb).trans hck.2;have ek:(k:Int)<64:=by omega
    have HPK:=hid (Zje O k x y hx hy);have HL:=hid (Zcw O k);clear hx hy hck;go_wp2_with fail
    have hbx:=Zaa wr (.cells #[.int .u16 x,.int .u16 y] 109);have hhx:=heap_alloc_new wr (.cells #[.int .u16 x,.int .u16 y] 109);generalize wr.alloc (.cells #[.int .u16 x,.int .u16 y] 109)=W1 at hbx hhx |-
    obtain⟨g,hg⟩:∃ g,g=wr.heap.size:=⟨_,rfl⟩;rw[<- hg] at hhx |-
    have d1:W1.cell? ⟨g,0,none⟩=some (.int .u16 x):=by rw[cell_of_row _ _ _ _ _ _ hhx];rfl
    have d2:W1.cell? ⟨g,1,none⟩=some (.int .u16 y):=by rw[cell_of_row _ _ _ _ _ _ hhx];rfl
    have hgl:g<W1.heap.size:=(Array.getElem?_eq_some_iff.1 hhx).1;have hune:=fun k hk=>(HOB.out.2.lt k hk).2
    have HG:=hid hg;have HU:=hid hune;have HB1:=hid (hbr.trans (hbx.mono hbr.size));have HOB1:=hid (HOB.out.below hbx);clear hg hune hbx hhx
    go_wp2_with (first
     |(go_at_call 177;(with_reducible refine(pPut_nil x hbd.1.1 hbd.1.2 _).mono ?_);rintro e w4 ⟨v4,rfl,hob4,hb4⟩
       have e2:w4.cell? ⟨g,1,none⟩=some (.int .u16 y):=(hb4.cell (p:=⟨g,1,none⟩) hgl).trans d2;have hg4:g<w4.heap.size:=Nat.lt_of_lt_of_le hgl hb4.size;have HB4:=hid (HB1.out.trans (hb4.mono HB1.out.size)))
     |(at_builtin
       refine Zah w4 rfl (.tmp 17) (.tmp 21) rfl w.heap.size _ (Zdq O k) rfl (HOB1.out.below hb4) w4 v4 (lowB x 2) rfl hob4.bsl (fun _ _=>rfl) (by rw[HL.out,Zac];omega) HB4.out.size ?_;intro v5 w5 hob5 hb5 hg5;have f2:w5.cell? ⟨g,1,none⟩=some (.int .u16 y):=(grown_cell hg5 g 1 hg4 (fun k hk e=>by have:=HU.out k hk;rw[HG.out] at e;omega)).trans e2;have HB5:=hid (HB4.out.trans hb5);clear hb5 hg5)
     |(go_at_call 177;(with_reducible refine(pPut_nil y hbd.2.1 hbd.2.2 _).mono ?_);rintro e w6 ⟨v6,rfl,hob6,hb6⟩
       have HB6:=hid (HB5.out.trans (hb6.mono HB5.out.size)))
     |(at_builtin
       refine Zah w6 rfl (.tmp 23) (.tmp 27) rfl w.heap.size _ (Zdq O k ++ lowB x 2) rfl (hob5.below hb6) w6 v6 (lowB y 2) rfl hob6.bsl (fun _ _=>rfl) (by rw[List.length_append,HL.out,Zac,Zac];omega) HB6.out.size ?_;intro v7 w7 hob7 hb7 _;have HB7:=hid (HB6.out.trans hb7);clear hb7))
    go_roundw
    case rel=>exact⟨k+1,by omega,by go_num,by show OB _ _ _ (Zdq O (k+1));rw[HPK.out];exact hob7,HB7.out⟩
    case measure=>simp[intOf];omega
  . obtain rfl:k=64:=by omega
    go_wp2;go_ret2;exact⟨_,rfl,by rw[HPO.out];exact HOB.out,hbr⟩
def pref(f:Nat->Int × Int)(k:Nat):List (Int × Int):=(List.range 64).map fun i=>if i<k then f i else (0,0)
theorem pref_length(f:Nat->Int × Int)(k:Nat):(pref f k).length=64:=by simp[pref]
theorem pref_set(f:Nat->Int × Int)(k:Nat):(pref f k).set k (f k)=pref f (k+1):=by
 apply List.ext_getElem (by simp[pref]);intro i h1 h2;simp only[pref,List.getElem_set,List.getElem_map,List.getElem_range];by_cases e:k=i
 . subst e;rw[if_pos rfl,if_pos (by omega)]
 . rw[if_neg e]
   by_cases h:i<k
   . rw[if_pos h,if_pos (by omega)]
   . rw[if_neg h,if_neg (by omega)]
theorem pref_zero(f:Nat->Int × Int):pref f 0=List.replicate 64 (0,0):=by
 rw[List.eq_replicate_iff];refine⟨pref_length f 0,fun b hb=>?_⟩;obtain⟨i,_,rfl⟩:=List.mem_map.1 hb;rw[if_neg (by omega)]
theorem pref_full(f:Nat->Int × Int):pref f 64=(List.range 64).map f:=by
 unfold pref;apply List.map_congr_left;intro i hi;rw[if_pos (List.mem_range.1 hi)]
theorem rrForm_any(i a:Int)(hi0:0<=i)(hi:i<=65535)(ha0:0<=a)(ha:a<=65535)(w:World):
 Calls Tryz.prog 126 #[.agg #[.int .u16 i,.int .u16 a]] w fun e w'=>e=.returned (.bool (frmO i a))/\Below w.heap.size w w':=by
 have hob:=Zaa w (.cells #[.int .u16 i,.int .u16 a] 109);obtain⟨B,hB⟩:∃ B,B=frmO i a:=⟨_,rfl⟩;rw[<- hB];unfold frmO at hB;by_cases h0:i=0
 . rw[if_pos (.inl h0)] at hB
   subst h0;cases hd:decide (a=0)
   all_goals
    rw[hd] at hB;have HB:=hid hB;have hda:(a==0)=_:=hd;clear hB hd;go_enter Tryz.func126,Tryz.ntmps126;go_wp2;go_ret;exact⟨by rw[HB.out];rfl,hob⟩
 . have e0:(i==0)=false:=by simpa using h0
   by_cases h1:i=65535
   . rw[if_pos (.inr h1)] at hB
     subst h1;cases hd:decide (a=0)
     all_goals
      rw[hd] at hB;have HB:=hid hB;have hda:(a==0)=_:=hd;clear hB hd h0;go_enter Tryz.func126,Tryz.ntmps126;go_wp2;go_ret;exact⟨by rw[HB.out];rfl,hob⟩
   . rw[if_neg (by omega)] at hB
     have e1:(i==65535)=false:=by simpa using h1
     by_cases h2:i=65534
     . rw[if_pos h2] at hB
       subst h2;cases hd:decide (a<6)
       all_goals
        rw[hd] at hB;have HB:=hid hB;clear hB h0 h1;go_enter Tryz.func126,Tryz.ntmps126;go_wp2;go_ret;exact⟨by rw[HB.out];rfl,hob⟩
     . rw[if_neg h2] at hB
       have e2:(i==65534)=false:=by simpa using h2
       clear h0 h1 h2;by_cases h3:i<48
       . by_cases h4:a<138
         . have HB:Hid (B=true):=hid (by rw[hB];simp[h3,h4])
           clear hB;go_enter Tryz.func126,Tryz.ntmps126;go_wp2;go_ret;exact⟨by rw[HB.out];rfl,hob⟩
         . have hda:(a==65535)=B:=by rw[hB,decide_eq_true h3,decide_eq_false h4];rfl
           have hb2:B=true\/B=false:=by cases B <;> simp
           clear hB;rcases hb2 with rfl|rfl
           all_goals
            go_enter Tryz.func126,Tryz.ntmps126;go_wp2;go_ret;exact⟨rfl,hob⟩
       . have HB:Hid (B=false):=hid (by rw[hB];simp[h3])
         clear hB;go_enter Tryz.func126,Tryz.ntmps126;go_wp2;go_ret;exact⟨by rw[HB.out];rfl,hob⟩
theorem rrForm_is(i a:Int)(hi:0<=i/\i<=65535)(ha:0<=a/\a<=65535)(B:Bool)(h:frmO i a=B)(w:World):
 Calls Tryz.prog 126 #[.agg #[.int .u16 i,.int .u16 a]] w fun e w'=>e=.returned (.bool B)/\Below w.heap.size w w':=by
 rw[<- h];exact rrForm_any i a hi.1 hi.2 ha.1 ha.2 w
theorem rrPage_len{w:World}(ao:Option Addr)(len cap:Nat)(h:len≠64):Calls Tryz.prog 77 #[.slice ao len cap] w fun e w'=>e=.returned (.tuple #[.slice none 0 0,.int .i64 1])/\w=w':=by
 have hne:((len:Int) != 64)=true:=by simp;omega
 go_enter Tryz.func77,Tryz.ntmps77;go_wp2;go_ret2;exact⟨rfl,rfl⟩
theorem rPut2_c{w0 w:World}{u:Value}{l:List Int}(hs:BSl w0 u l)(hl:l.length<=1000)(x:Int)(hx0:0<=x)(hx:x<=65535)(hb:Below w0.heap.size w0 w):
 Calls Tryz.prog 127 #[u,.int .u64 x,.int .i64 2] w fun e w'=>∃ v,e=.returned v/\BSl w' v (l ++ lowB x 2)/\Below w0.heap.size w0 w':=
 (Zhx (hs.below hb) (by omega) x 2 2 (by omega) (by omega) rfl hx0 (by omega)).mono fun e w' ⟨v,he,hob,hb2⟩=>⟨v,he,hob.bsl,hb.trans (hb2.mono hb.size)⟩
theorem u64_in(x:Int)(h0:0<=x)(h1:x<18446744073709551616):IntKind.u64.wrap x=x:=by rw[IntKind.wrap_u64];omega
def RPageOut(O:List (Int × Int))(w:World)(e:Ending)(w':World):Prop:=
 (allO O=true/\∃ v,e=.returned (.tuple #[v,.int .i64 0])/\BSl w' v (Zcs O)/\Below w.heap.size w w')\/
 (allO O=false/\e=.returned (.tuple #[.slice none 0 0,.int .i64 1])/\Below w.heap.size w w')
set_option maxHeartbeats 2000000 in
theorem rrPage_64{w:World}{b off cap:Nat}{O:List (Int × Int)}(hO:O.length=64)(hB:OwB O)(hb:b<w.heap.size)
 (hc:∀ j,j<O.length->w.cell? ⟨b,off+j*2,none⟩=some (.int .u16 (O.getD j (0,0)).1)/\w.cell? ⟨b,off+j*2+1,none⟩=some (.int .u16 (O.getD j (0,0)).2)):
 Calls Tryz.prog 77 #[.slice (some ⟨b,off,none⟩) 64 cap] w (RPageOut O w):=by
 have HC:=hid hc;have HO:=hid hO;have HBB:=hid hB;have hall:allO O=frmK O 64:=by rw[allO,hO];rfl
 have HA:=hid hall;have hpo:Zcs O=Zdq O 64:=by unfold Zcs;rw[hO]
 have HPO:=hid hpo;clear hc hO hB hall hpo;go_enter Tryz.func77,Tryz.ntmps77;go_wp2;go_loopw [4,11] (fun u i wr=>∃ k:Nat,k<=64/\i=.int .i64 k/\Hid (frmK O k=true)/\Hid (BSl wr u (Zdq O k))/\Below w.heap.size w wr) (fun _ i _=>64-(intOf i).toNat)
 case atStart=>exact⟨0,by omega,rfl,rfl,Zhd _,Below.refl _ _⟩
 case round=>
  obtain⟨k,hk,rfl,HK,HU,hbr⟩:=hrel;by_cases hlt:k<64
  . have hck:=HC.out k (by rw[HO.out];exact hlt)
    have hbd:=HBB.out k;have hj:frmJ O k=frmO (O.getD k (0,0)).1 (O.getD k (0,0)).2:=rfl;obtain⟨x,hx⟩:∃ x,x=(O.getD k (0,0)).1:=⟨_,rfl⟩;obtain⟨y,hy⟩:∃ y,y=(O.getD k (0,0)).2:=⟨_,rfl⟩;rw[<- hx,<- hy] at hck hbd hj;have c1:=(hbr.cell (p:=⟨b,off+k*2,none⟩) hb).trans hck.1;have c2:=(hbr.cell (p:=⟨b,off+k*2+1,none⟩) hb).trans hck.2;have ek:(k:Int)<64:=by omega
    have HPK:=hid (Zje O k x y hx hy);have hpl:=Zcw O k;have HL1:Hid ((Zdq O k).length<=1000):=hid (by omega);have HL2:Hid ((Zdq O k ++ lowB x 2).length<=1000):=hid (by rw[List.length_append,Zac];omega);clear hx hy hck hpl;cases hf:frmO x y
    . have HF:=hid hf
      rw[hf] at hj;have HJ:=hid hj;clear hf hj;go_wp2_with (go_at_call 126;refine(rrForm_is x y hbd.1 hbd.2 false HF.out _).mono ?_;rintro e w2 ⟨rfl,hb2⟩)
      go_ret2;exact .inr ⟨by rw[HA.out,frmK_no HJ.out hlt],rfl,hbr.trans (hb2.mono hbr.size)⟩
    . have HF:=hid hf
      rw[hf] at hj;have HJ:=hid hj;clear hf hj;go_wp2_with (go_at_call 126;refine(rrForm_is x y hbd.1 hbd.2 true HF.out _).mono ?_;rintro e w2 ⟨rfl,hb2⟩)
      have b0:b<wr.heap.size:=Nat.lt_of_lt_of_le hb hbr.size;have b2:b<w2.drew.heap.size:=Nat.lt_of_lt_of_le b0 hb2.size;have hbd2:Below wr.heap.size wr w2.drew:=hb2.drew;have d1:w2.drew.cell? ⟨b,off+k*2,none⟩=some (.int .u16 x):=(hbd2.cell (p:=⟨b,off+k*2,none⟩) b0).trans c1;have d2:w2.drew.cell? ⟨b,off+k*2+1,none⟩=some (.int .u16 y):=(hbd2.cell (p:=⟨b,off+k*2+1,none⟩) b0).trans c2;have HC1:=hid (fun W (h:Below wr.heap.size wr W)=>(hbr.trans (h.mono hbr.size)));have HX:=hid (fun W (h:Below wr.heap.size wr W)=>And.intro ((h.cell (p:=⟨b,off+k*2,none⟩) b0).trans c1) ((h.cell (p:=⟨b,off+k*2+1,none⟩) b0).trans c2));have HP1:=hid (fun W (h:Below wr.heap.size wr W)=>rPut2_c HU.out HL1.out x hbd.1.1 hbd.1.2 h);have hwx:IntKind.u64.wrap x=x:=u64_in x hbd.1.1 (by omega);have hwy:IntKind.u64.wrap y=y:=u64_in y hbd.2.1 (by omega);clear c1 c2 hb2 b2
      go_region_held3 (fun W=>W.cell? ⟨b,off+k*2,none⟩=some (.int .u16 x)/\W.cell? ⟨b,off+k*2+1,none⟩=some (.int .u16 y)) (first|exact⟨f1,f2⟩|exact⟨e1,e2⟩|exact⟨d1,d2⟩) (first
       |(go_at_call 127;(with_reducible refine(HP1.out _ hbd2).mono ?_);rintro e w3 ⟨v3,rfl,hs3,hb3⟩
         obtain⟨e1,e2⟩:=HX.out _ hb3;have HP2:=hid (fun W (h:Below w3.heap.size w3 W)=>rPut2_c hs3 HL2.out y hbd.2.1 hbd.2.2 h))
       |(go_at_call 127;(with_reducible refine(HP2.out _ (Below.refl _ _)).mono ?_);rintro e w4 ⟨v4,rfl,hs4,hb4⟩
         obtain⟨f1,f2⟩:=HX.out _ (hb3.trans (hb4.mono hb3.size))))
      go_wp2_with fail
      go_roundw
      case rel=>exact⟨k+1,by omega,by go_num,by show frmK O (k+1)=true;rw[frmK,HK.out,HJ.out];rfl,by show BSl _ _ (Zdq O (k+1));rw[HPK.out];exact hs4,HC1.out _ (hb3.trans (hb4.mono hb3.size))⟩
      case measure=>simp[intOf];omega
  . obtain rfl:k=64:=by omega
    go_wp2;go_ret2;exact .inl ⟨by rw[HA.out,HK.out],_,rfl,by rw[HPO.out];exact HU.out,hbr⟩
theorem rrPage_any{w:World}{v:Value}{O:List (Int × Int)}(hs:OwSl w v O):Calls Tryz.prog 77 #[v] w (RPageOut O w):=by
 by_cases h:O.length=64
 . obtain⟨b,off,cap,rfl,hb,hc⟩:=hs.at (by omega)
   rw[h];exact rrPage_64 h hs.1 hb hc
 . obtain⟨ao,cap,rfl⟩:=hs.shape
   refine(rrPage_len ao _ cap h).mono fun e w' ⟨he,hw⟩=>.inr ⟨?_,he,by rw[<- hw];exact Below.refl _ _⟩
   rw[allO,decide_eq_false h];rfl
theorem owr_nil(w:World)(B:Nat):OwR w B (.slice none 0 0) []:=⟨owB_of fun j h=>by simp at h,by simp[ownC],.inl ⟨rfl,rfl⟩⟩
theorem rrFresh_yes(g:Int)(h1:0<=g)(h2:g<12)(w:World):Calls Tryz.prog 125 #[.int .i64 g] w fun e w'=>∃ v,e=.returned v/\OwR w' w.heap.size v (Zez g 64)/\Below w.heap.size w w':=by
 have h3:g<=11:=by omega
 go_enter Tryz.func125,Tryz.ntmps125;go_wp2;go_loopw [3,12] (fun u i wr=>∃ k:Nat,k<=64/\i=.int .i64 k/\Hid (OwR wr w.heap.size u (Zez g k))/\Below w.heap.size w wr) (fun _ i _=>64-(intOf i).toNat)
 case atStart=>exact⟨0,by omega,rfl,owr_nil _ _,Below.refl _ _⟩
 case round=>
  obtain⟨k,hk,rfl,HU,hbr⟩:=hrel;by_cases hlt:k<64
  . have ek:(k:Int)<64:=by omega
    have HS:=hid (freshK_succ g k);have HL:=hid (Zhb g k);cases hf:fixB (64*g+(k:Int))
    . have HF:=hid hf
      have hj:freshJ g k=(0,0):=by unfold freshJ;rw[hf];rfl
      have HJ:=hid hj;clear hf hj
      go_wp2_with (first
       |(go_at_call 51;refine(Zjs _ (by omega) _ HF.out _).mono ?_;rintro e w3 ⟨rfl,rfl⟩)
       |(at_builtin
         refine Zhh _ 0 0 (by decide) (by decide) rfl (.tmp 22) (.tmp 24) rfl w.heap.size _ (Zez g k) rfl (HU.out.below (by first|exact Zaa _ _|exact(Zaa _ _).setCell (p:=⟨wr.heap.size,0,none⟩) (Nat.le_refl _) _)) (by rw[HL.out];omega) (by simp;rfl) (by simp[World.setCell];have:=hbr.size;omega) ?_;intro v4 w4 hob4 hb4))
      go_roundw
      case rel=>exact⟨k+1,by omega,by go_num,by show OwR _ _ _ (Zez g (k+1));rw[HS.out,HJ.out];exact hob4,(hbr.trans ((by first|exact Zaa _ _|exact(Zaa _ _).setCell (p:=⟨wr.heap.size,0,none⟩) (Nat.le_refl _) _:Below wr.heap.size wr _).mono hbr.size)).trans hb4⟩
      case measure=>simp[intOf];omega
    . have HF:=hid hf
      have hj:freshJ g k=(65535,0):=by unfold freshJ;rw[hf];rfl
      have HJ:=hid hj;clear hf hj
      go_wp2_with (first
       |(go_at_call 51;refine(Zjs _ (by omega) _ HF.out _).mono ?_;rintro e w3 ⟨rfl,rfl⟩)
       |(at_builtin
         refine Zhh _ 65535 0 (by decide) (by decide) rfl (.tmp 22) (.tmp 24) rfl w.heap.size _ (Zez g k) rfl (HU.out.below (by first|exact Zaa _ _|exact(Zaa _ _).setCell (p:=⟨wr.heap.size,0,none⟩) (Nat.le_refl _) _)) (by rw[HL.out];omega) (by simp;rfl) (by simp[World.setCell];have:=hbr.size;omega) ?_;intro v4 w4 hob4 hb4))
      go_roundw
      case rel=>exact⟨k+1,by omega,by go_num,by show OwR _ _ _ (Zez g (k+1));rw[HS.out,HJ.out];exact hob4,(hbr.trans ((by first|exact Zaa _ _|exact(Zaa _ _).setCell (p:=⟨wr.heap.size,0,none⟩) (Nat.le_refl _) _:Below wr.heap.size wr _).mono hbr.size)).trans hb4⟩
      case measure=>simp[intOf];omega
  . obtain rfl:k=64:=by omega
    go_wp2;go_ret;exact⟨_,rfl,HU.out,hbr⟩
def pagesB(l:List Int):Prop:=l.length=256/\frmK (ownK l 64) 64=true
def OwnOut(l:List Int)(w:World)(e:Ending)(w':World):Prop:=
 (pagesB l/\∃ v,e=.returned (.tuple #[v,.int .i64 0])/\OwR w' w.heap.size v (ownK l 64)/\Below w.heap.size w w')\/
 (¬ pagesB l/\e=.returned (.tuple #[.slice none 0 0,.int .i64 18])/\Below w.heap.size w w')
theorem pGet2{w:World}{v:Value}{c:List Int}(hs:BSl w v c)(hc:c.length<=100000)(a:Nat)(ha:a+2<=c.length)(y:Int)(hy:y=getV c a 2):Calls Tryz.prog 144 #[v,.int .i64 (a:Int),.int .i64 2] w fun e w'=>e=.returned (.tuple #[.int .u64 y,.bool true])/\w=w':=by
 have hg:=pGet_any hs (by omega) (a:Int) 2 (by omega) (by omega);have hn:getN c (a:Int) 2=y:=by unfold getN;rw[if_pos (by omega),hy];rfl
 have hb:gotB c (a:Int) 2=true:=decide_eq_true (by omega);rw[hn,hb] at hg;exact hg
theorem grOwn_len{w:World}(ao:Option Addr)(len cap:Nat)(h:len≠256):Calls Tryz.prog 96 #[.slice ao len cap] w fun e w'=>e=.returned (.tuple #[.slice none 0 0,.int .i64 18])/\w=w':=by
 have hne:((len:Int) != 256)=true:=by simp;omega
 go_enter Tryz.func96,Tryz.ntmps96;go_wp2;go_ret2;exact⟨rfl,rfl⟩
theorem own_all(l:List Int):allO (ownK l 64)=frmK (ownK l 64) 64:=by rw[allO,Zdr];rfl
theorem grOwn_256{w:World}{v:Value}{l:List Int}(hs:BSl w v l)(hl:l.length=256):Calls Tryz.prog 96 #[v] w (OwnOut l w):=by
 obtain⟨ao,cap,rfl,_⟩:=hs.shape;obtain⟨M,hMM⟩:∃ M:Nat,M=64:=⟨_,rfl⟩;have HMI:Hid ((64:Int)=(M:Int)):=hid (by omega);have hM1:M<=1000:=by omega
 have HM:=hid hMM;have HS:=hid hs;have HL:=hid hl;rw[hl] at HS |-
 clear hMM hs hl;go_enter Tryz.func96,Tryz.ntmps96;go_wp2_with (at_make;refine wpList_make_ow _ rfl _ _ rfl _ M rfl rfl HMI.out (by omega) ?_)
 have hz:(w.alloc (.cells (ownC (List.replicate M (0,0))).toArray 109)).heap[w.heap.size]? =some (.cells (ownC (pref (ownJ l) 0)).toArray 109 (0,0)):=by
  rw[pref_zero,<- HM.out];exact heap_alloc_new w _
 have hb2:Below w.heap.size w (w.alloc (.cells (ownC (List.replicate M (0,0))).toArray 109)):=Zaa _ _;generalize w.alloc (.cells (ownC (List.replicate M (0,0))).toArray 109)=w2 at hz hb2 |-
 have HZ:=hid hz;clear hz;go_loopw [16] (fun i wr=>∃ k:Nat,k<=64/\i=.int .i64 k/\Hid (wr.heap[w.heap.size]? =some (.cells (ownC (pref (ownJ l) k)).toArray 109 (0,0)))/\Below w.heap.size w wr) (fun i _=>64-(intOf i).toNat)
 case atStart=>exact⟨0,by omega,rfl,HZ,hb2⟩
 case round=>
  obtain⟨k,hk,rfl,HR,hbr⟩:=hrel;clear HZ hb2;by_cases hlt:k<64
  . have ekM:(k:Int)<(M:Int):=by have:=HMI.out;omega
    have ekN:k<M:=by have:=HM.out;omega
    have ek:(k:Int)<64:=by omega
    have hsr:=HS.out.below hbr;have T1:=pGet2 hsr (by rw[HL.out];decide) (4*k) (by rw[HL.out];omega) _ rfl;have T2:=pGet2 hsr (by rw[HL.out];decide) (4*k+2) (by rw[HL.out];omega) _ rfl;have b1:=getV2_bd (Zbo hsr.1) (4*k);have b2:=getV2_bd (Zbo hsr.1) (4*k+2);have hps:=pref_set (ownJ l) k;rw[ownJ] at hps;obtain⟨x,hx⟩:∃ x,x=getV l (4*k) 2:=⟨_,rfl⟩;obtain⟨y,hy⟩:∃ y,y=getV l (4*k+2) 2:=⟨_,rfl⟩;rw[<- hx] at T1 b1 hps;rw[<- hy] at T2 b2 hps;rw[show((4*k:Nat):Int)=(k:Int)*4 by push_cast;omega] at T1;rw[show((4*k+2:Nat):Int)=(k:Int)*4+2 by push_cast;omega] at T2;have H1:=hid T1;have H2:=hid T2;have HPS:=hid hps;clear T1 T2 hx hy hsr hps;obtain⟨b10,b11⟩:=b1;obtain⟨b20,b21⟩:=b2
    go_wp2_with (first
     |(go_at_call 144;(with_reducible refine H1.out.mono ?_);rintro e w3 ⟨rfl,rfl⟩)
     |(go_at_call 144;(with_reducible refine H2.out.mono ?_);rintro e w3 ⟨rfl,rfl⟩)
     |(with_reducible refine wpList_store_ow rfl (.tmp 41) (.tmp 40) rfl w.heap.size k (pref (ownJ l) k) x y rfl rfl HR.out (by rw[pref_length];exact hlt) ?_;intro w4 hw4 hr4
       rw[HPS.out] at hr4))
    go_roundw
    case rel=>exact⟨k+1,by omega,by go_num,hr4,hbr.trans (hw4.below (Nat.le_refl _))⟩
    case measure=>simp[intOf];omega
  . obtain rfl:k=64:=by omega
    have hkM:¬ (64:Nat)<M:=by have:=HM.out;omega
    have hr:=HR.out;rw[pref_full] at hr;have hob0:=OwR.of_row (B:=w.heap.size) (owB_ownK (Zbo HS.out.1) 64) (Nat.le_refl _) hr (by rw[Zdr];decide);rw[Zdr] at hob0;have hob:OwR wr w.heap.size (.slice (some ⟨w.heap.size,0,none⟩) M M) (ownK l 64):=by rw[HM.out];exact hob0
    clear hob0;have HOB:=hid hob;have ho:=own_all l;cases hf:frmK (ownK l 64) 64
    all_goals
     rw[hf] at ho;have HF:=hid hf;have HA:=hid (grAll_is hob.sl _ ho);clear hf ho hr
    all_goals clear hob
    . go_wp2_with (go_at_call 145;refine HA.out.mono ?_;rintro e w3 ⟨rfl,hb3⟩)
      go_ret2;exact .inr ⟨(fun h=>by have h2:=h.2;rw[HF.out] at h2;cases h2),rfl,hbr.trans (hb3.mono hbr.size)⟩
    . go_wp2_with (go_at_call 145;refine HA.out.mono ?_;rintro e w3 ⟨rfl,hb3⟩)
      go_ret2;exact .inl ⟨⟨HL.out,HF.out⟩,_,rfl,HOB.out.below hb3,hbr.trans (hb3.mono hbr.size)⟩
theorem grOwn_any{w:World}{v:Value}{l:List Int}(hs:BSl w v l):Calls Tryz.prog 96 #[v] w (OwnOut l w):=by
 by_cases h:l.length=256
 . exact grOwn_256 hs h
 . obtain⟨ao,cap,rfl,_⟩:=hs.shape
   exact(grOwn_len ao _ cap h).mono fun e w' ⟨he,hw⟩=>.inr ⟨fun hp=>h hp.1,he,by rw[<- hw];exact Below.refl _ _⟩
theorem sizeD:(Tryz.prog.info? 212).map (·.size)=some 2:=by kernel_rfl
theorem sizeRD:(Tryz.prog.info? 139).map (·.size)=some 2:=by kernel_rfl
theorem one2{p q:Value}(hp:p.oneCell'=true)(hq:q.oneCell'=true):(#[p,q]:Array Value).all (·.oneCell')=true:=by simp[hp,hq]
theorem Zci{ops:Array Oper}{rest:List Oper}{o:Oper}{a:Act}{w:World}{Q:Exit->Act->World->Prop}(hgd:o.guard=none)(ty:TypeId)(hi:(Tryz.prog.info? ty).map (·.size)=some 2)(x y:Operand)(ho:o.op=.store ty x y)
 (g:Nat) (hx:a.eval x=.pointer (some ⟨g,0,none⟩)) (p q p' q':Value) (hy:a.eval y=.agg #[p,q]) (hp:p.oneCell'=true) (hq:q.oneCell'=true) (T:TypeId) (hg:w.heap[g]? =some (.cells #[p',q'] T (0,0)))
 (h:∀ w',Wrote w w' g->w'.heap[g]? =some (.cells #[p,q] T (0,0))->wpList Tryz.prog ops Q rest (a.put o.dst undef) w'):wpList Tryz.prog ops Q (o :: rest) a w:=
 wpList_store_row hgd ty x y ho g #[p,q] hx hy T _ hg hi rfl (one2 hp hq) (h _ (Wrote.setRow _ _ _) (setRow_heap _ _ _ _ _ _ hg))
theorem Zfx{fn:Func}{p u:Tmp}{ty:TypeId}{fs}(h:fn.results=#[.cell p ty,.tmp u])(hu:Tryz.prog.underlying ty=some (.struct fs))(hi:(Tryz.prog.info? ty).map (·.size)=some 2)
 (tmps:Array Value) (w:World) (g:Nat) (T:TypeId) (a b x:Value) (hp:tmps.getD p undef=.pointer (some ⟨g,0,none⟩)) (hg:w.heap[g]? =some (.cells #[a,b] T (0,0))) (hx:tmps.getD u undef=x):
 (results fn tmps).run Tryz.prog w=.ok (.tuple #[.agg #[a,b],x]) w:=by
 rw[results_cell_tmp h,hp,hx];simp only[asAddr,Sem.run_pure,Result.andThen_ok];rw[run_loadVar_row w g T ty _ (0,0) _ hg hu rfl (by rw[hi];rfl)];rfl
theorem Zad{w w1:World}{g:Nat}{o:Obj}(h:w.heap[g]? =some o)(hb:Below w.heap.size w w1):w1.heap[g]? =some o:=(hb.block _ (Array.getElem?_eq_some_iff.1 h).1).trans h
def preB(f:Nat->Bool)(k:Nat):List Bool:=(List.range 64).map fun i=>if i<k then f i else false
theorem Zjd(f:Nat->Bool)(k:Nat):(preB f k).length=64:=by simp[preB]
theorem preB_set(f:Nat->Bool)(k:Nat):(preB f k).set k (f k)=preB f (k+1):=by
 apply List.ext_getElem (by simp[preB]);intro i h1 h2;simp only[preB,List.getElem_set,List.getElem_map,List.getElem_range];by_cases e:k=i
 . subst e;rw[if_pos rfl,if_pos (by omega)]
 . rw[if_neg e]
   by_cases h:i<k
   . rw[if_pos h,if_pos (by omega)]
   . rw[if_neg h,if_neg (by omega)]
theorem preB_zero(f:Nat->Bool):preB f 0=List.replicate 64 false:=by
 rw[List.eq_replicate_iff];refine⟨Zjd f 0,fun b hb=>?_⟩;obtain⟨i,_,rfl⟩:=List.mem_map.1 hb;rw[if_neg (by omega)]
theorem preB_full(f:Nat->Bool):preB f 64=(List.range 64).map f:=by
 unfold preB;apply List.map_congr_left;intro i hi;rw[if_pos (List.mem_range.1 hi)]
theorem bNew_64(w:World):Calls Tryz.prog 53 #[.int .i64 64] w fun e w'=>e=.returned (.pointer (some ⟨w.heap.size+1,0,none⟩))/\BRow w' (w.heap.size+1) w.heap.size (List.replicate 64 false)/\Below w.heap.size w w':=
 (bNew_at 64 64 (by decide) w (by decide)).mono fun _ _ ⟨h1,h2,h3,_⟩=>⟨h1,h2,h3⟩
theorem bSet_nat{w:World}{p g:Nat}{L:List Bool}(h:BRow w p g L)(i:Nat)(hi:i<L.length)(on:Bool):
 Calls Tryz.prog 56 #[.pointer (some ⟨p,0,none⟩),.int .i64 i,.bool on] w fun e w'=>e=.returned (.int .i64 0)/\BRow w' p g (L.set i on)/\Wrote w w' g:=
 (bSet_any h i on).mono fun e w' he=>by rw[if_pos (by omega),if_pos (by omega)] at he;exact he
theorem frm_zero{y:Int}(h:frmO 0 y=true):y=0:=by
 unfold frmO at h;rw[if_pos (.inl rfl)] at h;exact of_decide_eq_true h
theorem grOf_good{w:World}{v:Value}{O:List (Int × Int)}(hs:OwSl w v O)(g:Int)(hg1:0<=g)(hg2:g<12)(ha:allO O=true):
 Calls Tryz.prog 147 #[.int .i64 g,v] w fun e w'=>∃ p r,e=.returned (.tuple #[.agg #[.int .i64 g,.pointer (some ⟨p,0,none⟩)],.int .i64 0])/\BRow w' p r (Zbe O 64)/\Below w.heap.size w w':=by
 have hb1:=Zaa w (.cells #[.int .i64 0,.pointer none] 212);have hr1:=heap_alloc_new w (.cells #[.int .i64 0,.pointer none] 212);obtain⟨w1,hw1⟩:∃ w1,w1=w.alloc (.cells #[.int .i64 0,.pointer none] 212):=⟨_,rfl⟩;rw[<- hw1] at hb1 hr1;have hz1:w.heap.size<w1.heap.size:=by rw[hw1];simp
 have H1:=hid hw1.symm;have HR1:=hid hr1;have hs1:=hs.below hb1;have HA:=hid (grAll_is hs1 true ha);have hO:=Ziq ha;obtain⟨b,off,cap,rfl,hb,hc⟩:=hs.at (by omega);have hfr:∀ j,j<64->frmJ O j=true:=by
  have:frmK O 64=true:=by rw[allO,hO] at ha;simpa using ha
  exact(frmK_iff O 64).1 this
 have HBB:=hid hs.1;have HC:=hid hc;have HO:=hid hO;have HFR:=hid hfr;rw[hO] at HA |-
 clear hs hs1 hw1 ha hc hO hfr hr1;go_enter Tryz.func147,Tryz.ntmps147
 go_wp2_with (first
  |(go_at_call 183;rw[H1.out];refine(grPoss_yes g hg1 hg2 _).mono ?_;rintro e w2 ⟨rfl,rfl⟩)
  |(go_at_call 145;refine HA.out.mono ?_;rintro e w2 ⟨rfl,hb2⟩;have hr2:=Zad HR1.out hb2)
  |(go_at_call 53;refine(bNew_64 _).mono ?_;rintro e w3 ⟨rfl,hrow3,hb3⟩;have hr3:=Zad hr2 hb3))
 obtain⟨r,hr⟩:∃ r,r=w2.heap.size:=⟨_,rfl⟩;rw[<- hr] at hrow3 |-
 obtain⟨p,hp⟩:∃ p,p=r+1:=⟨_,rfl⟩;rw[<- hp] at hrow3 |-
 have hwr:w.heap.size<r:=by have:=hb2.size;omega
 have hwp:w.heap.size<p:=by omega
 have hb03:Below w.heap.size w w3:=(hb1.trans (hb2.mono hb1.size)).trans (hb3.mono (by omega));rw[<- preB_zero (Zef O)] at hrow3;have HROW3:=hid hrow3;have HR3:=hid hr3;clear hr hp hrow3 hr3 hr2 hb3 hb2;go_loopw [21] (fun i wr=>∃ k:Nat,k<=64/\i=.int .i64 k/\Hid (BRow wr p r (preB (Zef O) k))/\Hid (wr.heap[w.heap.size]? =some (.cells #[.int .i64 0,.pointer none] 212 (0,0)))/\Below w.heap.size w wr) (fun i _=>64-(intOf i).toNat)
 case atStart=>exact⟨0,by omega,rfl,HROW3,HR3,hb03⟩
 case round=>
  obtain⟨k,hk,rfl,HROW,HRC,hbr⟩:=hrel;clear HROW3 HR3 hb03;by_cases hlt:k<64
  . have hck:=HC.out k (by rw[HO.out];exact hlt)
    have hbd:=HBB.out k;have hfk:=HFR.out k hlt;have hus:Zef O k=decide ((O.getD k (0,0)).1≠0):=rfl;rw[frmJ] at hfk;obtain⟨x,hx⟩:∃ x,x=(O.getD k (0,0)).1:=⟨_,rfl⟩;obtain⟨y,hy⟩:∃ y,y=(O.getD k (0,0)).2:=⟨_,rfl⟩;rw[<- hx,<- hy] at hck hbd hfk;rw[<- hx] at hus;have c1:=(hbr.cell (p:=⟨b,off+k*2,none⟩) hb).trans hck.1;have c2:=(hbr.cell (p:=⟨b,off+k*2+1,none⟩) hb).trans hck.2;have ek:(k:Int)<64:=by omega
    have hps:=preB_set (Zef O) k;rw[hus] at hps;have HRL:=HROW.out.lt;clear hx hy hck hus;by_cases h0:x=0
    . subst h0
      obtain rfl:=frm_zero hfk;have HPS:=hid hps;have HSET:=hid (bSet_nat (HROW.out.below (Zaa wr (.cells #[.int .u16 0,.int .u16 0] 109)) HRL.1 HRL.2) k (by rw[Zjd];exact hlt) false);clear hfk hps;go_wp2_with (go_at_call 56;refine HSET.out.mono ?_;rintro e w4 ⟨rfl,hrow4,hw4⟩)
      go_roundw
      case rel=>exact⟨k+1,by omega,by go_num,by show BRow _ _ _ (preB (Zef O) (k+1));rw[<- HPS.out];exact hrow4,by show w4.heap[w.heap.size]? =_;rw[hw4.2.2.2.2 _ (by omega)];exact Zad HRC.out (Zaa _ _),(hbr.trans ((Zaa _ _).mono hbr.size)).trans (hw4.below (by omega))⟩
      case measure=>simp[intOf];omega
    . have hx0:(x==0)=false:=by simpa using h0
      rw[decide_eq_true h0] at hps;have HPS:=hid hps;have HSET:=hid (bSet_nat (HROW.out.below (Zaa wr (.cells #[.int .u16 x,.int .u16 y] 109)) HRL.1 HRL.2) k (by rw[Zjd];exact hlt) true);clear hfk hps h0;go_wp2_with (go_at_call 56;refine HSET.out.mono ?_;rintro e w4 ⟨rfl,hrow4,hw4⟩)
      go_roundw
      case rel=>exact⟨k+1,by omega,by go_num,by show BRow _ _ _ (preB (Zef O) (k+1));rw[<- HPS.out];exact hrow4,by show w4.heap[w.heap.size]? =_;rw[hw4.2.2.2.2 _ (by omega)];exact Zad HRC.out (Zaa _ _),(hbr.trans ((Zaa _ _).mono hbr.size)).trans (hw4.below (by omega))⟩
      case measure=>simp[intOf];omega
  . obtain rfl:k=64:=by omega
    have hrc:=HRC.out;have HRL:=HROW.out.lt;go_wp2_with (with_reducible refine Zci rfl 212 sizeD (.tmp 4) (.tmp 35) rfl w.heap.size rfl _ _ _ _ rfl rfl rfl _ hrc ?_;intro w5 hw5 hr5)
    refine bodyPost_ret (Zfx rfl Tryz.underlying212 sizeD _ _ w.heap.size _ _ _ _ rfl hr5 rfl) rfl ⟨p,r,rfl,?_,hbr.trans (hw5.below (Nat.le_refl _))⟩;have hrow:=HROW.out;rw[preB_full] at hrow;exact hrow.of_heap (hw5.2.2.2.2 _ (by omega)) (hw5.2.2.2.2 _ (by omega))
end Go.Proofs.YtedabomlfcghoaaGreat
namespace Go.Proofs.YtedabomlfcghoaaGreat
set_option maxRecDepth 100000
open Go.RowKit BM
theorem infoBool1:(Tryz.prog.info? 4).map (fun i=>(i.zero,i.size,i.bytes))=some (some (.bool false),1,1):=by kernel_rfl
def NewBytes(w:World)(l:List Int)(e:Ending)(w':World):Prop:=
 ∃ v,e=.returned v/\BSl w' v l/\Below w.heap.size w w'
theorem bsl_row{w:World}{g:Nat}{l:List Int}(hb:∀ j,0<=l.getD j 0/\l.getD j 0<=255)(hg:w.heap[g]? =some (.cells (l.map (Value.int .u8)).toArray 5 (0,0)))(c:Nat)(hcl:l.length<=c):
 BSl w (.slice (some ⟨g,0,none⟩) l.length c) l:=by
 refine⟨hb,.inr ⟨_,c,rfl,hcl,fun j hj=>⟨(Array.getElem?_eq_some_iff.1 hg).1,rfl,?_⟩⟩⟩;show w.cell? ⟨g,0+j,none⟩=_
 rw[Nat.zero_add,cell_of_row _ _ _ _ _ _ hg];simp[List.getD_eq_getElem?_getD,hj]
theorem bBytes_l{w:World}{p g:Nat}{L:List Bool}(h:BRow w p g L):
 Calls Tryz.prog 185 #[.pointer (some ⟨p,0,none⟩)] w fun e w'=>∃ l,Rep l L/\NewBytes w l e w':=by
 have hn:=h.1;have hlt:=h.lt;obtain⟨l,hr,hc,hs,hx,hf,hg⟩:=h.cells;have hlen:=hr.len;obtain⟨N,hN⟩:∃ N,N=l.length:=⟨_,rfl⟩;rw[<- hN] at hs hx;have hNN:N<=600:=by omega
 have HN:=hid hN;have HX:=hid hx;have hbl:Below w.heap.size w (w.alloc (.cells (Array.replicate N (.int .u8 0)) 5)):=(Below.refl _ _).alloc (Nat.le_refl _) _;have hg2:(w.alloc (.cells (Array.replicate N (.int .u8 0)) 5)).heap[w.heap.size]? =some (.cells (List.replicate N (Value.int .u8 0)).toArray 5 (0,0)):=by
  rw[heap_alloc_new];simp
 have hcl:(l.map (Value.int .u8)).length=N:=by rw[List.length_map,<- hN]
 have hmm:N=Nat.min N N:=by simp
 have hfit:0+(l.map (Value.int .u8)).length<=(List.replicate N (Value.int .u8 0)).length:=by rw[List.length_map,<- hN];simp
 have hsrc:0<(l.map (Value.int .u8)).length->some (⟨w.heap.size,0,none⟩:Addr)=some ⟨w.heap.size,0,none⟩/\∃ ad,some (⟨g,0,none⟩:Addr)=some ad/\∀ j v,(l.map (Value.int .u8))[j]? =some v->(w.alloc (.cells (Array.replicate N (.int .u8 0)) 5)).cell? (ad.add j)=some v:=fun _=>by
  refine⟨rfl,_,rfl,fun j v hj=>?_⟩;have hjl:j<l.length:=by simpa using (List.getElem?_eq_some_iff.1 hj).1
  rw[Addr.add_lit,Nat.zero_add,hbl.cell (by exact hlt.2),hx j (by omega),<- hj];simp[List.getD_eq_getElem?_getD,hjl]
 have HG2:=hid hg2;have HC:=hid hcl;have HM:=hid hmm;have HF:=hid hfit;have HS:=hid hsrc;have HL:=hid hlen;have hs1:(w.alloc (.cells (Array.replicate N (.int .u8 0)) 5)).cell? ⟨p,1,none⟩=some (.slice (some ⟨g,0,none⟩) N N):=by rw[hbl.cell (by exact hlt.1)];exact hs
 clear hN hx hg2 hcl hmm hfit hsrc hf hg hlen;go_enter Tryz.func185,Tryz.ntmps185
 go_wp2_with (first
  |(at_make;refine Zay _ rfl _ _ rfl _ N rfl rfl rfl (by omega) ?_)
  |(with_reducible refine Zbc rfl _ _ 30 30 rfl 5 Tryz.underlying30 (by kernel_rfl) _ _ _ _ _ _ rfl rfl w.heap.size 0 (List.replicate N (Value.int .u8 0)) 5 HG2.out (l.map (Value.int .u8)) N HC.out HM.out HS.out HF.out (ints_oneCell _ _) ?_;intro w2 HG3 HW2))
 go_ret;refine⟨l,hr,_,rfl,?_,hbl.trans (HW2.below (Nat.le_refl _))⟩;have h3:=HG3.out;rw[Zbw _ _ (by rw[HC.out];simp)] at h3;rw[HN.out];exact bsl_row hr.byte h3 _ (by omega)
theorem bBytes_any{w:World}{p g:Nat}{L:List Bool}(h:BRow w p g L)(l:List Int)(hr:Rep l L):
 Calls Tryz.prog 185 #[.pointer (some ⟨p,0,none⟩)] w (NewBytes w l):=
 (bBytes_l h).mono fun e w' ⟨m,hm,hN⟩=>by rw[rep_ext hr hm];exact hN
def part(L:List Bool)(k:Nat):List Bool:=L.take k ++ List.replicate (L.length-k) false
theorem Zgv(L:List Bool)(k:Nat)(hk:k<=L.length):(part L k).length=L.length:=by simp[part];omega
theorem part_getD(L:List Bool)(k j:Nat):(part L k).getD j false=if j<k then L.getD j false else false:=by
 unfold part;simp only[List.getD_eq_getElem?_getD];by_cases h:j<k
 . rw[if_pos h]
   by_cases h2:j<L.length
   . rw[List.getElem?_append_left (by simp;omega),List.getElem?_take,if_pos h]
   . rw[List.getElem?_eq_none (l:=L) (by omega),List.getElem?_eq_none (by simp;omega)]
 . rw[if_neg h,List.getElem?_append]
   split
   . rename_i h2;simp at h2;omega
   . rw[List.getElem?_replicate];split <;> rfl
theorem part_zero(L:List Bool):part L 0=List.replicate L.length false:=by simp[part]
theorem part_all(L:List Bool)(k:Nat)(h:L.length<=k):part L k=L:=by simp[part,List.take_of_length_le h,show L.length-k=0 by omega]
theorem list_ext_getD{A B:List Bool}(hl:A.length=B.length)(h:∀ j,A.getD j false=B.getD j false):A=B:=by
 apply List.ext_getElem hl;intro j h1 h2;have:=h j
 simpa [List.getD_eq_getElem?_getD,h1,h2] using this
theorem part_step(L:List Bool)(k:Nat)(hk:k<L.length)(b:Bool)(hb:L.getD k false=b):part L (k+1)=if b then (part L k).set k true else part L k:=by
 apply list_ext_getD
 . cases b <;> simp[Zgv,Nat.le_of_lt hk,Nat.succ_le_of_lt hk]
 . intro j
   rw[part_getD];cases b
   . simp only[Bool.false_eq_true,if_false,part_getD]
     by_cases h1:j<k
     . rw[if_pos h1,if_pos (by omega)]
     . rw[if_neg h1]
       by_cases e:j=k
       . rw[e,if_pos (by omega),hb]
       . rw[if_neg (by omega)]
   . simp only[if_true]
     rw[getD_set _ _ _ _ _ (by rw[Zgv _ _ (by omega)];exact hk),part_getD];by_cases e:j=k
     . rw[if_pos e,e,if_pos (by omega),hb]
     . rw[if_neg e]
       by_cases h1:j<k
       . rw[if_pos h1,if_pos (by omega)]
       . rw[if_neg h1,if_neg (by omega)]
theorem or_bit'(x:Int)(k:Nat)(hk:k<8)(h0:0<=x)(h1:x<=255):bits BinOp.or IntKind.u8 x (2 ^ k%256)=if Zdl x k then x else x+2 ^ k:=by
 have e:(2:Int) ^ k%256=IntKind.u64.wrap (2 ^ k)%256:=by
  have h:k=0\/k=1\/k=2\/k=3\/k=4\/k=5\/k=6\/k=7:=by omega
  rcases h with rfl|rfl|rfl|rfl|rfl|rfl|rfl|rfl <;> decide
 rw[e,or_bit x k hk h0 h1]
end Go.Proofs.YtedabomlfcghoaaGreat
namespace Go.Proofs.YtedabomlfcghoaaGreat
set_option maxRecDepth 100000
open Go.RowKit Go.ChangeShapes Go.WideShapes
def KSl(w:World)(v:Value)(k:List Bool):Prop:=
 (v=.slice none 0 0/\k=[])\/∃ a cap,v=.slice (some a) k.length cap/\∀ j,j<k.length->a.block<w.heap.size/\a.spot=none/\w.cell? ⟨a.block,a.off+j,none⟩=some (.bool (k.getD j false))
theorem KSl.below{w w':World}{v:Value}{k:List Bool}(h:KSl w v k)(hb:Below w.heap.size w w'):KSl w' v k:=by
 rcases h with h| ⟨a,cap,hv,hc⟩
 . exact .inl h
 . refine .inr ⟨a,cap,hv,fun j hj=>?_⟩
   obtain⟨h1,h2,h3⟩:=hc j hj;exact⟨Nat.lt_of_lt_of_le h1 hb.size,h2,by rw[hb.cell (p:=⟨a.block,a.off+j,none⟩) h1,h3]⟩
theorem KSl.shape{w:World}{v:Value}{k:List Bool}(h:KSl w v k):∃ ao cap,v=.slice ao k.length cap:=by
 rcases h with⟨hv,hk⟩| ⟨a,cap,hv,_⟩
 . exact⟨none,0,by rw[hv,hk];rfl⟩
 . exact⟨some a,cap,hv⟩
section
variable {H:Type}{enc:TypeId × Value->H}{W:World}{base:Nat}{spare:Nat->Bool}{held:Bool}
end
end Go.Proofs.YtedabomlfcghoaaGreat
namespace Go.Proofs.YtedabomlfcghoaaGreat
set_option maxRecDepth 100000
open Go.RowKit BM
def KR(w:World)(B:Nat)(v:Value)(L:List Bool):Prop:=w.ownsRow B 4 1 v L.length (L.map Value.bool)
theorem KR.more{w:World}{B B':Nat}{v:Value}{L:List Bool}(h:KR w B v L)(hB:B'<=B):KR w B' v L:=by
 refine⟨h.1,?_⟩;rcases h.2 with h| ⟨g,cap,cur,hv,hg,r⟩
 . exact .inl h
 . exact .inr ⟨g,cap,cur,hv,Nat.le_trans hB hg,r⟩
theorem kr_nil(w:World)(B:Nat):KR w B (.slice none 0 0) []:=⟨by simp,.inl ⟨rfl,rfl⟩⟩
theorem KR.ksl{w:World}{B:Nat}{v:Value}{L:List Bool}(h:KR w B v L):KSl w v L:=by
 rcases h.2 with⟨hv,hl⟩| ⟨g,cap,cur,hv,hg,hh,hnc,hcm,hcs,ht⟩
 . exact .inl ⟨hv,List.eq_nil_of_length_eq_zero hl⟩
 . refine .inr ⟨_,cap,hv,fun j hj=>⟨(Array.getElem?_eq_some_iff.1 hh).1,rfl,?_⟩⟩
   show w.cell? ⟨g,0+j,none⟩=_
   rw[Nat.zero_add,cell_of_row _ _ _ _ _ _ hh];have:(cur.toList.take (L.length*1))[j]? =(L.map Value.bool)[j]? :=by rw[ht]
   rw[List.getElem?_take,if_pos (by omega)] at this
   simpa [List.getD_eq_getElem?_getD,hj] using this
theorem rCount_k{w:World}{p:Nat}{v:Value}{L:List Bool}(hp:w.cell? ⟨p,0,none⟩=some v)(hk:KSl w v L)(hn:L.length<=4096):
 Calls Tryz.prog 128 #[.pointer (some ⟨p,0,none⟩)] w fun e w'=>e=.returned (.int .i64 (Zcr L))/\w=w':=by
 rcases hk with⟨rfl,rfl⟩| ⟨⟨g,off,spot⟩,cap,rfl,hc⟩
 . go_enter Tryz.func128,Tryz.ntmps128
   go_wp2;refine wp_loop_rounds 1 ?_;rw[rounds_succ];go_wp2;go_ret;exact⟨rfl,rfl⟩
 . have hx:∀ j,j<L.length->w.cell? ⟨g,off+j,none⟩=some (.bool (L.getD j false)):=fun j hj=>by
    obtain⟨_,h2,h3⟩:=hc j hj;exact h3
   have hsp:0<L.length->spot=none:=fun h=>(hc 0 h).2.1
   clear hc;have HX:=hid hx;have HSP:=hid hsp;clear hx hsp;go_enter Tryz.func128,Tryz.ntmps128;go_wp2_with fail
   go_loop [3,10] (fun c i=>∃ k:Nat,k<=L.length/\i=.int .i64 k/\c=.int .i64 (Zcr (L.take k))) (fun _ i=>L.length-(intOf i).toNat)
   case atStart=>exact⟨0,by omega,rfl,rfl⟩
   case round=>
    obtain⟨k,hk,rfl,rfl⟩:=hrel;have hle:=Zix L k;obtain⟨C,hC⟩:∃ C,C=Zcr (L.take k):=⟨_,rfl⟩;rw[<- hC] at hle |-
    by_cases hlt:k<L.length
    . obtain rfl:spot=none:=HSP.out (by omega)
      have hstep:=countB_take hlt;have hc:=HX.out k hlt;cases hb:L.getD k false
      . rw[hb,if_neg (by decide),<- hC] at hstep
        rw[hb] at hc;have HS:=hid hstep;clear hb hstep hC;go_wp2_with fail
        go_round
        case rel=>exact⟨k+1,by omega,by go_num,by rw[HS.out];go_num⟩
        case measure=>simp[intOf];omega
      . rw[hb,if_pos rfl,<- hC] at hstep
        rw[hb] at hc;have HS:=hid hstep;clear hb hstep hC;go_wp2_with fail
        go_round
        case rel=>exact⟨k+1,by omega,by go_num,by rw[HS.out];go_num⟩
        case measure=>simp[intOf];omega
    . have HC:=hid hC
      clear hC;go_wp2_with fail
      go_ret;exact⟨Zjb (by rw[HC.out,List.take_of_length_le (by omega)]),rfl⟩
theorem KSl.open'{w:World}{v:Value}{L:List Bool}(h:KSl w v L):∃ ao cap,v=.slice ao L.length cap/\(0<L.length->∃ g off,ao=some ⟨g,off,none⟩/\g<w.heap.size/\∀ j,j<L.length->w.cell? ⟨g,off+j,none⟩=some (.bool (L.getD j false))):=by
 rcases h with⟨rfl,rfl⟩| ⟨⟨g,off,spot⟩,cap,rfl,hc⟩
 . exact⟨none,0,rfl,fun h=>by simp at h⟩
 . refine⟨_,cap,rfl,fun h0=>?_⟩
   obtain⟨h1,h2,_⟩:=hc 0 h0;obtain rfl:spot=none:=h2;exact⟨g,off,rfl,h1,fun j hj=>(hc j hj).2.2⟩
theorem rBytes_k{w:World}{p:Nat}{v:Value}{L:List Bool}(hp:w.cell? ⟨p,0,none⟩=some v)(hpl:p<w.heap.size)(hk:KSl w v L)(hn:L.length<=4096)(l:List Int)(hr:Rep l L):
 Calls Tryz.prog 130 #[.pointer (some ⟨p,0,none⟩)] w (NewBytes w l):=by
 have hlen:=hr.len;obtain⟨ao,cap,rfl,hx⟩:=hk.open';obtain⟨N,hN⟩:∃ N,N=l.length:=⟨_,rfl⟩;rw[<- hN] at hlen;have e8:((L.length:Int)+7) / 8=(N:Int):=by omega
 have hNN:N<=600:=by omega
 have HN:=hid hN;have HX:=hid hx;have HE:=hid e8;have HL:=hid hlen;have hbl:Below w.heap.size w (w.alloc (.cells (Array.replicate N (.int .u8 0)) 5)):=(Below.refl _ _).alloc (Nat.le_refl _) _;have hs1:(w.alloc (.cells (Array.replicate N (.int .u8 0)) 5)).cell? ⟨p,0,none⟩=some (.slice ao L.length cap):=by rw[hbl.cell (by exact hpl)];exact hp
 clear hN hx e8 hlen hk;go_enter Tryz.func130,Tryz.ntmps130;go_wp2_with (at_make;refine Zay _ rfl _ _ rfl _ N rfl rfl HE.out (by omega) ?_)
 go_loopw [18] (fun i wr=>∃ (k:Nat) (m:List Int),k<=L.length/\i=.int .i64 k/\Hid (Rep m (part L k))/\Hid (wr.heap[w.heap.size]? =some (.cells (m.map (Value.int .u8)).toArray 5 (0,0)))/\Below w.heap.size w wr)
  (fun i _=>L.length-(intOf i).toNat)
 case atStart=>
  refine⟨0,List.replicate ((L.length+7) / 8) 0,by omega,rfl,?_,?_,hbl⟩
  . rw[part_zero];exact rep_new L.length
  . rw[heap_alloc_new,<- HL.out];simp[Hid]
 case round=>
  obtain⟨k,m,hk,rfl,hrep,hgm,hbr⟩:=hrel;have hml:=hrep.out.len;rw[Zgv L k hk,<- HL.out] at hml;have HML:=hid hml;clear hml;have hp:=(hbr.cell (p:=⟨p,0,none⟩) hpl).trans hp;by_cases hlt2:k<L.length
  . obtain⟨g,off,rfl,hgl,hxx⟩:=HX.out (by omega)
    have hkN:k / 8<N:=by have:=HL.out;omega
    have hkN':(k:Int) / 8<(N:Int):=by omega
    have hg0:=(hbr.cell (p:=⟨g,off+k,none⟩) hgl).trans (hxx k hlt2);clear hxx;cases hb:L.getD k false
    . rw[hb] at hg0
      have HP:=hid (part_step L k hlt2 false hb);clear hb;go_wp2_with fail
      go_roundw
      case rel=>
       refine⟨k+1,m,by omega,by go_num,?_,hgm,hbr⟩;have:=HP.out;rw[if_neg (by decide)] at this;rw[this];exact hrep
      case measure=>simp[intOf];omega
    . rw[hb] at hg0
      have HP:=hid (part_step L k hlt2 true hb);have hxb:=hrep.out.byte (k / 8);obtain⟨x,hx⟩:∃ x,x=m.getD (k / 8) 0:=⟨_,rfl⟩;have hcx:wr.cell? ⟨w.heap.size,k / 8,none⟩=some (.int .u8 x):=by
       rw[cell_of_row _ _ _ _ _ _ hgm.out,hx];simp[List.getD_eq_getElem?_getD,HML.out,hkN]
      have hfx:wr.frozen? ⟨w.heap.size,k / 8,none⟩=false:=frozen_of_row _ _ _ _ _ hgm.out;rw[<- hx] at hxb;have HXX:=hid hx;clear hb hx;go_wp2_with fail
      go_region
      go_wp2_with fail
      go_roundw
      case rel=>
       have hk8:k%8<8:=Nat.mod_lt _ (by omega);have hpl:k<(part L k).length:=by rw[Zgv L k hk];exact hlt2
       have hset:=rep_set hrep.out k true hpl (bits BinOp.or IntKind.u8 x (2 ^ (k%8)%256)) (by rw[or_bit' x _ hk8 hxb.1 hxb.2,<- HXX.out];rfl);have hP:=HP.out;rw[if_pos trivial] at hP;refine⟨k+1,_,by omega,by go_num,by rw[hP];exact hset,?_,?_⟩
       . show(wr.setCell _ _).heap[w.heap.size]? =_
         rw[heap_setCell_same _ _ _ _ _ _ hgm.out,List.map_set];simp
       . exact(hbr.setCell (p:=⟨w.heap.size,k / 8,none⟩) (Nat.le_refl _) _).drew
      case measure=>simp[intOf];omega
  . go_wp2_with fail
    go_ret;have hr2:=hrep.out;rw[part_all L k (by omega)] at hr2;obtain rfl:m=l:=rep_ext hr2 hr;exact⟨_,rfl,by rw[HN.out];exact bsl_row hr.byte hgm.out _ (by first|omega|exact Nat.le_refl _),hbr⟩
end Go.Proofs.YtedabomlfcghoaaGreat
