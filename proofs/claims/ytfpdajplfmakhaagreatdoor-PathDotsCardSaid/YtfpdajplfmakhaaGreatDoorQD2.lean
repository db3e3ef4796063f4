/- What the law rests on. -/
import Derived.RegionTactic
import Derived.BigRegion
import Derived.Deep.RegionHeld3
import Derived.Laws.ResultCell
import Derived.Laws.Tables
import Derived.Laws.Rows
import Derived.Deep.Slices
import Derived.Deep.Fields
import Derived.ProofKit
import Derived.Deep.RegionLaw
import Derived.Deep.AppendLies
import Derived.Deep.RegionHeld
import Derived.Lib.SlBytesConst
import Derived.StillTailTactics
import Derived.Deep.RegionHeldLaw
import Derived.Great.BuildSlice
import Derived.Test.YtfpdajplfmakhaaGreatDoorQD1
open Go.Value renaming int->Y,slice->I,pointer->Ax,tuple->AT,bool->AY,agg->BS
open Go.IntKind renaming i64->E
open Go.Proofs.Tryz renaming prog->Aq
open Option renaming none->J,some->H
open Go renaming World->X,Value->d,Calls->AH,Oper->BK,strOfNums->B7,wpList->Cj,TypeId->Cn
open Go.Ending renaming returned->Av
open Go.Obj renaming cells->Ay
open Go.RowKit renaming Below->AB
open List renaming replicate->AI,range->BE,length_cons->BJ
open Bool renaming false->AN,true->AQ
open Array renaming replicate->AW
open Or renaming inl->A4,inr->A8
open Int renaming toNat_natCast->Cf
open Go.Proofs.Tryz
namespace Go.Proofs.YtfpdajplfmakhaaGreatDoor
set_option linter.defProp false
set_option maxHeartbeats 12000000
set_option linter.unusedVariables false
set_option maxRecDepth 100000
theorem AR:type_of% @List.length_set:=@List.length_set
theorem A7:type_of% @Nat.zero_le:=@Nat.zero_le
theorem A9:type_of% @Go.bodyPost_ret:=@Go.bodyPost_ret
theorem Bi:type_of% @Go.World.cell?_of_block:=@Go.World.cell?_of_block
theorem Br:type_of% @List.getElem_mem:=@List.getElem_mem
theorem BN:type_of% @List.mem_singleton:=@List.mem_singleton
theorem Cc:type_of% @List.append_nil:=@List.append_nil
theorem Cg:type_of% @Go.ByteArray.toList_eq:=@Go.ByteArray.toList_eq
theorem Co:type_of% @List.getElem_range:=@List.getElem_range
theorem Cr:type_of% @List.map_congr_left:=@List.map_congr_left
theorem Cu:type_of% @List.getElem_map:=@List.getElem_map
theorem Cv:type_of% @Go.heap_alloc_last:=@Go.heap_alloc_last
theorem Cy:type_of% @Nat.le_of_lt:=@Nat.le_of_lt
theorem CM:type_of% @Go.World.cell?_setCells_out:=@Go.World.cell?_setCells_out
theorem C0:type_of% @Ne.symm:=@Ne.symm
theorem C8:type_of% @Go.wpList_store_row:=@Go.wpList_store_row
theorem Dn:type_of% @List.all_eq_true:=@List.all_eq_true
theorem Ea:type_of% @List.mem_or_eq_of_mem_set:=@List.mem_or_eq_of_mem_set
theorem Eh:type_of% @List.getElem_set:=@List.getElem_set
theorem Ez:type_of% @List.mem_cons:=@List.mem_cons
theorem E3:type_of% @Go.World.setRow_alloc_new:=@Go.World.setRow_alloc_new
theorem E4:type_of% @Go.Lib.run_convert_bytes_const:=@Go.Lib.run_convert_bytes_const
theorem Fw:type_of% @List.take_append_drop:=@List.take_append_drop
theorem GX:type_of% @Go.World.rangeAt_setCells_apart:=@Go.World.rangeAt_setCells_apart
theorem Uo:type_of% @List.getElem_take:=@List.getElem_take
section
open Go.RowKit
def BSl.take{w:X}{a:Addr}{cap:Nat}{l:Ab}(h:BSl w (I (H a) l.length cap) l)(n:Nat)(f:n<=l.length):BSl w (I (H a) n cap) (l.take n):=by
 refine⟨En h.1 n,A8 ⟨a,cap,by rw[AV,FL f],?_,fun j d=>?_⟩⟩
 . rcases h.2 with⟨b,_⟩| ⟨_,_,b,c,_⟩
   . simp at b
   . obtain⟨_,rfl⟩:_/\_:=by simpa using b
     rw[AV];omega
 . rw[AV,FL f] at d
   rcases h.2 with⟨b,_⟩| ⟨g,i,b,_,c⟩
   . simp at b
   . obtain⟨rfl,rfl⟩:a=g/\cap=i:=by simpa using b
     obtain⟨k,m,o⟩:=c j Aa;exact⟨k,m,by rw[o];simp[d]⟩
def nu(l:Ab)(w:X)(e:Ending)(w':X):Prop:=
 (Fy l/\∃ v,e=Av (AT #[v,AY AQ])/\OB w' w.heap.size v (l.take 252)/\AB w.heap.size w w')\/
 (¬ Fy l/\e=Av (AT #[I J 0 0,AY AN])/\AB w.heap.size w w')
def fB{w:X}{a:Option Addr}{len cap:Nat}(h:len≠256):
 AH Aq 149 #[I a len cap] w fun e w'=>e=Av (AT #[I J 0 0,AY AN])/\w=w':=by
 have b:((len:Int) != 256)=AQ:=Ak;go_enter func149,ntmps149;go_wp2_with fail
 go_ret2;exact⟨rfl,rfl⟩
def pK{w:X}{b off cap:Nat}{l:Ab}(c:BSl w (I (H ⟨b,off,J⟩) 256 cap) l)(h:l.length=256)(G:Int)(d:G=Cs l 252 4):
 AH Aq 183 #[I (H ⟨b,off,J⟩) 256 cap,Y E 252,Y E 4] w fun e w'=>e=Av (AT #[Y .u64 G,AY AQ])/\w=w':=by
 rcases c.2 with⟨a,_⟩| ⟨i,k,a,_,f⟩
 . simp at a
 . obtain⟨rfl,_,rfl⟩:_/\_/\_:=by simpa using a
   have:=ar (w:=w) (b:=b) (off:=off) (cap:=cap) c.1 Aa (fun j g=>(f j g).2.2) 252 4 Aa Aa Aa;rw[h] at this;rw[d];exact this
def lc{w:X}{b off cap:Nat}{l:Ab}(d:BSl w (I (H ⟨b,off,J⟩) 256 cap) l)(j:l.length=256)(v:256<=cap)(c:Cs l 252 4≠Fs (l.take 252)):
 AH Aq 149 #[I (H ⟨b,off,J⟩) 256 cap] w fun e w'=>e=Av (AT #[I J 0 0,AY AN])/\w=w':=by
 have m:BSl w (I (H ⟨b,off,J⟩) 252 cap) (l.take 252):=BSl.take (by rw[j];exact d) 252 Aa;have a:=EI (Da d.1) 252 4;have u:=FR (l.take 252);have n:(l.take 252).length<=140737488355300:=by rw[AV];omega
 obtain⟨G,h⟩:=nm (Cs l 252 4);obtain⟨S,i⟩:=nm (Fs (l.take 252));rw[<- h] at a c;rw[<- i] at u c;have k:(G != S)=AQ:=by simpa using c
 have t:G<4294967296:=by simpa using a.2
 have s:=a.1;have q:=wN d;have r:=wN m;have o:=wN h;have f:=wN i;have p:=wN j;have g:=wN n;clear d m h i j n a;go_enter func149,ntmps149
 go_wp2_with (first|(go_at_call 183;refine Ad (pK q.out p.out G o.out) ?_;rintro w' rfl)|(go_at_call 184;refine Ad (XC r.out (AP _ _) g.out S f.out) ?_;rintro w' rfl))
 go_ret2;exact⟨rfl,rfl⟩
def fd{w:X}{b off cap:Nat}{l:Ab}(j:BSl w (I (H ⟨b,off,J⟩) 256 cap) l)(u:l.length=256)(W:256<=cap)(C:Cs l 252 4=Fs (l.take 252)):
 AH Aq 149 #[I (H ⟨b,off,J⟩) 256 cap] w fun e w'=>∃ v,e=Av (AT #[v,AY AQ])/\OB w' w.heap.size v (l.take 252)/\AB w.heap.size w w':=by
 have G:BSl w (I (H ⟨b,off,J⟩) 252 cap) (l.take 252):=BSl.take (by rw[u];exact j) 252 Aa;have U:=FR (l.take 252);have k:(l.take 252).length=252:=by rw[AV];omega
 obtain⟨S,i⟩:=nm (Fs (l.take 252));have F:S=Cs l 252 4:=by rw[i,C]
 rw[<- i] at U;obtain⟨M,s⟩:∃ M:Nat,M=252:=⟨_,rfl⟩;have K:(252:Int)=(M:Int):=Aa;have A:=Fm j (w1:=w.alloc (Ay (AW M (Y .u8 0)) 5)) (fun p T=>Dh w _ p T) 252;have f:(w.alloc (Ay (AW M (Y .u8 0)) 5)).heap[w.heap.size]? =H (Ay (AI M (Y .u8 0)).toArray 5 (0,0)):=by
  rw[AC];simp
 have d:((l.take 252).map (Y .u8)).length=M:=by rw[Bn,k,s]
 have g:M=Nat.min 256 M:=(Nat.min_eq_right Aa).symm;have x:0+((l.take 252).map (Y .u8)).length<=(AI M (Y .u8 0)).length:=by rw[Bn,k,Bg];omega
 have t:AB w.heap.size w (w.alloc (Ay (AW M (Y .u8 0)) 5)):=(AP _ _).alloc (AE _) _;have a:=wN s;have o:=wN K;have V:M<=200000000000000:=Aa;have z:=wN j;have R:=wN G;have N:=wN F;have q:=wN i;have O:=wN u;have c:=wN k;have Q:=wN A;have m:=wN f;have y:=wN d;have P:=wN g;have L:=wN x;clear j G F i u k C A f d g x s K;go_enter func149,ntmps149
 go_wp2_with (first
  |(go_at_call 183;refine Ad (pK z.out O.out S N.out) ?_;rintro w' rfl)|(go_at_call 184;refine Ad (XC R.out (AP _ _) (by rw[c.out];omega) S q.out) ?_;rintro w' rfl)|(at_make;refine CT _ rfl _ _ rfl _ M rfl rfl o.out V ?_)
  |(with_reducible refine Dc rfl _ _ 77 77 rfl 5 underlying77 Ac _ _ _ _ _ _ rfl rfl w.heap.size 0 (AI M (Y .u8 0)) 5 m.out ((l.take 252).map (Y .u8)) M y.out P.out (fun h=>⟨rfl,Q.out h⟩) L.out (ints_oneCell _ _) ?_
    intro Z n r))
 go_ret2;refine⟨_,rfl,?_,t.trans (r.below (AE _))⟩;have D:=n.out;rw[EK _ _ (by rw[y.out,Bg])] at D;have E:=OB.of_heap (cap:=M) (rest:=[]) (l:=l.take 252) (B:=w.heap.size) (En z.out.1 _) (AE _) (by rw[Cc];exact D) (by rw[c.out,a.out];rfl) (by rw[a.out];decide);have e:(l.take 252).length=M:=by rw[c.out,a.out]
 rw[e] at E;exact E
def RJ{w:X}{v:d}{l:Ab}(g:BSl w v l):AH Aq 149 #[v] w (nu l w):=by
 by_cases a:l.length=256
 . rcases g.2 with⟨_,rfl⟩| ⟨⟨b,q,i⟩,k,rfl,j,p⟩
   . simp at a
   . obtain rfl:i=J:=(p 0 Aa).2.1
     rw[a] at g j |-
     by_cases h:Cs l 252 4=Fs (l.take 252)
     . exact(fd g a j h).mono fun e n ⟨v,c,f,o⟩=>A4 ⟨⟨a,h⟩,v,c,f,o⟩
     . exact(lc g a j h).mono fun e n ⟨c,f⟩=>A8 ⟨fun m=>h m.2,c,by rw[<- f];exact AP _ _⟩
 . obtain⟨r,k,rfl,_⟩:=g.shape
   exact(fB a).mono fun e n ⟨c,f⟩=>A8 ⟨fun m=>a m.1,c,by rw[<- f];exact AP _ _⟩
def R4{w:X}{v:d}{l:Ab}(c:BSl w v l)(h:¬ Fy l):AH Aq 149 #[v] w fun e w'=>e=Av (AT #[I J 0 0,AY AN])/\AB w.heap.size w w':=
 (RJ c).mono fun e w' b=>b.elim (fun a=>absurd a.1 h) fun a=>a.2
def JX{w:X}{v:d}{l:Ab}(c:BSl w v l)(h:Fy l):AH Aq 149 #[v] w fun e w'=>∃ v,e=Av (AT #[v,AY AQ])/\OB w' w.heap.size v (l.take 252)/\AB w.heap.size w w':=
 (RJ c).mono fun e w' b=>b.elim (fun a=>a.2) fun a=>absurd h a.1
def MJ{l:Ab}(h:Fy l):(l.take 252).length=252:=by
 have:=h.1;rw[AV];omega
end
section
open Go.RowKit BM
def Va(x:Int)(a:0<=x)(b:x<=65535)(w:X):AH Aq 133 #[I J 0 0,Y .u64 x,Y E 2] w (J8 w (B8 x 2)):=
 FK (Le w) Ai x 2 2 Aa Aa rfl a Aa
def J1(O:Ag)(k:Nat)(x y:Int)(a:x=(O.getD k (0,0)).1)(b:y=(O.getD k (0,0)).2):Em O (k+1)=Em O k ++ B8 x 2 ++ B8 y 2:=by
 rw[a,b];rfl
def Yt{w w':X}{row:Option Nat}(h:w.grownBy w' row)(b o:Nat)(hb:b<w.heap.size)(a:∀ k,row=H k->k≠b):w'.cell? ⟨b,o,J⟩=w.cell? ⟨b,o,J⟩:=by
 apply Bi;exact h.block b hb (fun e=>a b e.symm rfl)
def PH{w:X}{v:d}{O:Ag}(a:OwSl w v O)(B:Bool)(h:FQ O=B):AH Aq 267 #[v] w fun e w'=>e=Av (AY B)/\AB w.heap.size w w':=by
 rw[<- h];exact fT a
def I2{O:Ag}(h:FQ O=AQ):O.length=64:=by
 unfold FQ at h;rw[A0] at h;exact Ba h.1
def mr(w:X)(M:Nat)(a:M<=1000):OB (w.alloc (Ay (AW M (Y .u8 0)) 5)) w.heap.size (I (H ⟨w.heap.size,0,J⟩) 0 M) []:=by
 have h:=OB.of_heap (w:=w.alloc (Ay (AW M (Y .u8 0)) 5)) (B:=w.heap.size) (g:=w.heap.size) (cap:=M) (l:=[]) (rest:=AI M (Y .u8 0)) EX (AE _) (by rw[AC];simp) Ai (by unfold maxLen;omega);exact h
def Xe{w:X}{v:d}{O:Ag}(T:OwSl w v O)(h:FQ O=AQ):AH Aq 263 #[v] w fun e w'=>∃ v,e=Av (AT #[v,Y E 0])/\OB w' w.heap.size v (DO O)/\AB w.heap.size w w':=by
 have R:=I2 h;have HA:=wN (PH T AQ h);obtain⟨b,P,a4,rfl,hb,hc⟩:=T.at Aa;obtain⟨M,M5⟩:∃ M:Nat,M=256:=⟨_,rfl⟩;have qg:(256:Int)=(M:Int):=Aa;have W:=wN T.1;have HC:=wN hc;have HO:=wN R;have Z:=wN qg;have Sz:M<=1000:=Aa;have qh:DO O=Em O 64:=by unfold DO;rw[R]
 have a1:=wN qh;rw[R] at HA |-
 clear T h hc R M5 qg qh;go_enter func263,ntmps263
 go_wp2_with (first|(go_at_call 267;refine Ad HA.out ?_;rintro Q q)|(at_make;refine DA _ rfl _ _ rfl 0 256 0 M rfl rfl rfl Z.out (A7 _) Aa ?_))
 have f:=mr Q M Sz;have r:AB Q.heap.size Q (Q.alloc (Ay (AW M (Y .u8 0)) 5)):=AF _ _;generalize Q.alloc (Ay (AW M (Y .u8 0)) 5)=w3 at f r |-
 have NL:AB w.heap.size w w3:=q.trans (r.mono q.size);have qi:=f.more (B':=w.heap.size) q.size;have n:=wN qi;clear f qi r;go_loopw [4,13] (fun u i wr=>∃ k:Nat,k<=64/\i=Y E k/\Hid (OB wr w.heap.size u (Em O k))/\AB w.heap.size w wr) (fun _ i _=>64-(intOf i).toNat)
 case atStart=>exact⟨0,Aa,rfl,n,NL⟩
 case round=>
  obtain⟨k,S,rfl,o,c⟩:=hrel;clear n NL;by_cases a3:k<64
  . have m:=HC.out k (by rw[HO.out];exact a3)
    have a:=W.out k;obtain⟨x,hx⟩:=nm ((O.getD k (0,0)).1);obtain⟨y,hy⟩:=nm ((O.getD k (0,0)).2);rw[<- hx,<- hy] at m a;have c1:=(c.cell (p:=⟨b,P+k*2,J⟩) hb).trans m.1;have c2:=(c.cell (p:=⟨b,P+k*2+1,J⟩) hb).trans m.2;have ek:(k:Int)<64:=Aa;have a0:=wN (J1 O k x y hx hy);have HL:=wN (Fh O k);clear hx hy m;go_wp2_with fail
    have l:=AF wr (Ay #[Y .u16 x,Y .u16 y] 200);have s:=AC wr (Ay #[Y .u16 x,Y .u16 y] 200);generalize wr.alloc (Ay #[Y .u16 x,Y .u16 y] 200)=W1 at l s |-
    obtain⟨g,hg⟩:=nm wr.heap.size;rw[<- hg] at s |-
    have d1:W1.cell? ⟨g,0,J⟩=H (Y .u16 x):=(by rw[AD _ _ _ _ _ _ s];rfl);have d2:W1.cell? ⟨g,1,J⟩=H (Y .u16 y):=(by rw[AD _ _ _ _ _ _ s];rfl);have MW:g<W1.heap.size:=(Au.1 s).1;have Uh:=fun k S=>(o.out.2.lt k S).2
    have HG:=wN hg;have HU:=wN Uh;have t:=wN (c.trans (l.mono c.size));have C:=wN (o.out.below l);clear hg Uh l s
    go_wp2_with (first
     |(go_at_call 133;(with_reducible refine(Va x a.1.1 a.1.2 _).mono ?_);rintro e U ⟨v4,rfl,I,j⟩
       have e2:U.cell? ⟨g,1,J⟩=H (Y .u16 y):=(j.cell (p:=⟨g,1,J⟩) MW).trans d2;have a2:g<U.heap.size:=AL MW j.size;have z:=wN (t.out.trans (j.mono t.out.size)))
     |(at_builtin
       refine B0 U rfl (.tmp 17) (.tmp 21) rfl w.heap.size _ (Em O k) rfl (C.out.below j) U v4 (B8 x 2) rfl I.bsl (fun _ _=>rfl) (by rw[HL.out,Bp];omega) z.out.size ?_;intro v5 w5 K D SA;have f2:w5.cell? ⟨g,1,J⟩=H (Y .u16 y):=(Yt SA g 1 a2 (fun k S e=>by have:=HU.out k S;rw[HG.out] at e;omega)).trans e2;have A:=wN (z.out.trans D);clear D SA)
     |(go_at_call 133;(with_reducible refine(Va y a.2.1 a.2.2 _).mono ?_);rintro e w6 ⟨v6,rfl,L,F⟩
       have B:=wN (A.out.trans (F.mono A.out.size)))
     |(at_builtin
       refine B0 w6 rfl (.tmp 23) (.tmp 27) rfl w.heap.size _ (Em O k ++ B8 x 2) rfl (K.below F) w6 v6 (B8 y 2) rfl L.bsl (fun _ _=>rfl) (by rw[AO,HL.out,Bp,Bp];omega) B.out.size ?_;intro v7 w7 N G _;have V:=wN (B.out.trans G);clear G))
    go_roundw
    case rel=>exact⟨k+1,Aa,by go_num,by show OB _ _ _ (Em O (k+1));rw[a0.out];exact N,V.out⟩
    case measure=>simp[intOf];omega
  . obtain rfl:k=64:=by omega
    go_wp2;go_ret2;exact⟨_,rfl,by rw[a1.out];exact o.out,c⟩
def OH(f:Nat->Int × Int)(k:Nat):Ag:=(BE 64).map fun i=>if i<k then f i else (0,0)
def Oe(f:Nat->Int × Int)(k:Nat):(OH f k).length=64:=by simp[OH]
def iS(f:Nat->Int × Int)(k:Nat):(OH f k).set k (f k)=OH f (k+1):=by
 apply Bt (by simp[OH]);intro i a b;simp only[OH,Eh,Cu,Co];by_cases e:k=i
 . subst e;rw[AG rfl,AG Aa]
 . rw[AJ e]
   by_cases h:i<k
   . rw[AG h,AG Aa]
   . rw[AJ h,AJ Aa]
def eh(f:Nat->Int × Int):OH f 0=AI 64 (0,0):=by
 rw[List.eq_replicate_iff];refine⟨Oe f 0,fun b a=>?_⟩;obtain⟨i,_,rfl⟩:=Ce.1 a;rw[AJ Aa]
def fw(f:Nat->Int × Int):OH f 64=(BE 64).map f:=by
 unfold OH;apply Cr;intro i a;rw[AG (Bq.1 a)]
def Ys(i a:Int)(p:0<=i)(hi:i<=65535)(o:0<=a)(t:a<=65535)(w:X):
 AH Aq 111 #[BS #[Y .u16 i,Y .u16 a]] w fun e w'=>e=Av (AY (Gu i a))/\AB w.heap.size w w':=by
 have c:=AF w (Ay #[Y .u16 i,Y .u16 a] 200);obtain⟨B,b⟩:=nm (Gu i a);rw[<- b];unfold Gu at b;by_cases g:i=0
 . rw[AG (A4 g)] at b
   subst g;cases f:decide (a=0)
   all_goals
    rw[f] at b;have d:=wN b;have n:(a==0)=_:=f;clear b f;go_enter func111,ntmps111;go_wp2;go_ret;exact⟨by rw[d.out];rfl,c⟩
 . have q:(i==0)=AN:=by simpa using g
   by_cases h:i=65535
   . rw[AG (A8 h)] at b
     subst h;cases f:decide (a=0)
     all_goals
      rw[f] at b;have d:=wN b;have n:(a==0)=_:=f;clear b f g;go_enter func111,ntmps111;go_wp2;go_ret;exact⟨by rw[d.out];rfl,c⟩
   . rw[AJ Aa] at b
     have r:(i==65535)=AN:=by simpa using h
     by_cases j:i=65534
     . rw[AG j] at b
       subst j;cases f:decide (a<6)
       all_goals
        rw[f] at b;have d:=wN b;clear b g h;go_enter func111,ntmps111;go_wp2;go_ret;exact⟨by rw[d.out];rfl,c⟩
     . rw[AJ j] at b
       have s:(i==65534)=AN:=by simpa using j
       clear g h j;by_cases k:i<48
       . by_cases m:a<138
         . have d:Hid (B=AQ):=wN (by rw[b];simp[k,m])
           clear b;go_enter func111,ntmps111;go_wp2;go_ret;exact⟨by rw[d.out];rfl,c⟩
         . have n:(a==65535)=B:=by rw[b,AK k,AM m];rfl
           have l:B=AQ\/B=AN:=by cases B <;> simp
           clear b;rcases l with rfl|rfl
           all_goals
            go_enter func111,ntmps111;go_wp2;go_ret;exact⟨rfl,c⟩
       . have d:Hid (B=AN):=wN (by rw[b];simp[k])
         clear b;go_enter func111,ntmps111;go_wp2;go_ret;exact⟨by rw[d.out];rfl,c⟩
def ND(i a:Int)(hi:0<=i/\i<=65535)(b:0<=a/\a<=65535)(B:Bool)(h:Gu i a=B)(w:X):
 AH Aq 111 #[BS #[Y .u16 i,Y .u16 a]] w fun e w'=>e=Av (AY B)/\AB w.heap.size w w':=by
 rw[<- h];exact Ys i a hi.1 hi.2 b.1 b.2 w
def X5{w:X}(a:Option Addr)(len cap:Nat)(h:len≠64):AH Aq 68 #[I a len cap] w fun e w'=>e=Av (AT #[I J 0 0,Y E 1])/\w=w':=by
 have b:((len:Int) != 64)=AQ:=Ak;go_enter func68,ntmps68;go_wp2;go_ret2;exact⟨rfl,rfl⟩
def aP{a w:X}{u:d}{l:Ab}(g:BSl a u l)(h:l.length<=1000)(x:Int)(f:0<=x)(i:x<=65535)(hb:AB a.heap.size a w):
 AH Aq 112 #[u,Y .u64 x,Y E 2] w fun e w'=>∃ v,e=Av v/\BSl w' v (l ++ B8 x 2)/\AB a.heap.size a w':=
 (Iw (g.below hb) Aa x 2 2 Aa Aa rfl f Aa).mono fun e w' ⟨v,he,c,b⟩=>⟨v,he,c.bsl,hb.trans (b.mono hb.size)⟩
def u64_in(x:Int)(a:0<=x)(b:x<18446744073709551616):IntKind.u64.wrap x=x:=by rw[IntKind.wrap_u64];omega
def U7(O:Ag)(w:X)(e:Ending)(w':X):Prop:=
 (FQ O=AQ/\∃ v,e=Av (AT #[v,Y E 0])/\BSl w' v (DO O)/\AB w.heap.size w w')\/
 (FQ O=AN/\e=Av (AT #[I J 0 0,Y E 1])/\AB w.heap.size w w')
def dw{w:X}{b off cap:Nat}{O:Ag}(t:O.length=64)(hB:OwB O)(hb:b<w.heap.size)
 (hc:∀ j,j<O.length->w.cell? ⟨b,off+j*2,J⟩=H (Y .u16 (O.getD j (0,0)).1)/\w.cell? ⟨b,off+j*2+1,J⟩=H (Y .u16 (O.getD j (0,0)).2)):
 AH Aq 68 #[I (H ⟨b,off,J⟩) 64 cap] w (U7 O w):=by
 have HC:=wN hc;have HO:=wN t;have v:=wN hB;have m:FQ O=Jk O 64:=by rw[FQ,t];rfl
 have U:=wN m;have qh:DO O=Em O 64:=by unfold DO;rw[t]
 have L:=wN qh;clear hc t hB m qh;go_enter func68,ntmps68;go_wp2;go_loopw [4,11] (fun u i wr=>∃ k:Nat,k<=64/\i=Y E k/\Hid (Jk O k=AQ)/\Hid (BSl wr u (Em O k))/\AB w.heap.size w wr) (fun _ i _=>64-(intOf i).toNat)
 case atStart=>exact⟨0,Aa,rfl,rfl,Le _,AP _ _⟩
 case round=>
  obtain⟨k,hk,rfl,V,Z,c⟩:=hrel;by_cases r:k<64
  . have l:=HC.out k (by rw[HO.out];exact r)
    have a:=v.out k;have n:Ns O k=Gu (O.getD k (0,0)).1 (O.getD k (0,0)).2:=rfl;obtain⟨x,S⟩:=nm ((O.getD k (0,0)).1);obtain⟨y,T⟩:=nm ((O.getD k (0,0)).2);rw[<- S,<- T] at l a n;have M:=(c.cell (p:=⟨b,off+k*2,J⟩) hb).trans l.1;have N:=(c.cell (p:=⟨b,off+k*2+1,J⟩) hb).trans l.2;have ek:(k:Int)<64:=Aa;have K:=wN (J1 O k x y S T);have P:=Fh O k;have C:Hid ((Em O k).length<=1000):=wN Aa;have D:Hid ((Em O k ++ B8 x 2).length<=1000):=wN (by rw[AO,Bp];omega);clear S T l P;cases o:Gu x y
    . have A:=wN o
      rw[o] at n;have B:=wN n;clear o n;go_wp2_with (go_at_call 111;refine Ad (ND x y a.1 a.2 AN A.out _) ?_;rintro s d)
      go_ret2;exact A8 ⟨by rw[U.out,aC B.out r],rfl,c.trans (d.mono c.size)⟩
    . have A:=wN o
      rw[o] at n;have B:=wN n;clear o n;go_wp2_with (go_at_call 111;refine Ad (ND x y a.1 a.2 AQ A.out _) ?_;rintro s d)
      have b0:b<wr.heap.size:=AL hb c.size;have b2:b<s.drew.heap.size:=AL b0 d.size;have g:AB wr.heap.size wr s.drew:=d.drew;have d1:s.drew.cell? ⟨b,off+k*2,J⟩=H (Y .u16 x):=(g.cell (p:=⟨b,off+k*2,J⟩) b0).trans M;have d2:s.drew.cell? ⟨b,off+k*2+1,J⟩=H (Y .u16 y):=(g.cell (p:=⟨b,off+k*2+1,J⟩) b0).trans N;have z:=wN (fun W (h:AB wr.heap.size wr W)=>(c.trans (h.mono c.size)));have HX:=wN (fun W (h:AB wr.heap.size wr W)=>And.intro ((h.cell (p:=⟨b,off+k*2,J⟩) b0).trans M) ((h.cell (p:=⟨b,off+k*2+1,J⟩) b0).trans N));have F:=wN (fun W (h:AB wr.heap.size wr W)=>aP Z.out C.out x a.1.1 a.1.2 h);have sZ:IntKind.u64.wrap x=x:=u64_in x a.1.1 Aa;have a0:IntKind.u64.wrap y=y:=u64_in y a.2.1 Aa;clear M N d b2
      go_region_held3 (fun W=>W.cell? ⟨b,off+k*2,J⟩=H (Y .u16 x)/\W.cell? ⟨b,off+k*2+1,J⟩=H (Y .u16 y)) (first|exact⟨f1,f2⟩|exact⟨e1,e2⟩|exact⟨d1,d2⟩) (first
       |(go_at_call 112;(with_reducible refine(F.out _ g).mono ?_);rintro e w3 ⟨v3,rfl,Q,f⟩
         obtain⟨e1,e2⟩:=HX.out _ f;have G:=wN (fun W (h:AB w3.heap.size w3 W)=>aP Q D.out y a.2.1 a.2.2 h))
       |(go_at_call 112;(with_reducible refine(G.out _ (AP _ _)).mono ?_);rintro e w4 ⟨v4,rfl,R,q⟩
         obtain⟨f1,f2⟩:=HX.out _ (f.trans (q.mono f.size))))
      go_wp2_with fail
      go_roundw
      case rel=>exact⟨k+1,Aa,by go_num,by show Jk O (k+1)=AQ;rw[Jk,V.out,B.out];rfl,by show BSl _ _ (Em O (k+1));rw[K.out];exact R,z.out _ (f.trans (q.mono f.size))⟩
      case measure=>simp[intOf];omega
  . obtain rfl:k=64:=by omega
    go_wp2;go_ret2;exact A4 ⟨by rw[U.out,V.out],_,rfl,by rw[L.out];exact Z.out,c⟩
def Qp{w:X}{v:d}{O:Ag}(c:OwSl w v O):AH Aq 68 #[v] w (U7 O w):=by
 by_cases h:O.length=64
 . obtain⟨b,k,a,rfl,g,i⟩:=c.at Aa
   rw[h];exact dw h c.1 g i
 . obtain⟨f,a,rfl⟩:=c.shape
   refine(X5 f _ a h).mono fun e l ⟨he,j⟩=>A8 ⟨?_,he,by rw[<- j];exact AP _ _⟩
   rw[FQ,AM h];rfl
def af(w:X)(B:Nat):OwR w B (I J 0 0) []:=⟨JO fun j h=>by simp at h,by simp[Fx],A4 ⟨rfl,rfl⟩⟩
def UL(g:Int)(x:0<=g)(y:g<12)(w:X):AH Aq 109 #[Y E g] w fun e w'=>∃ v,e=Av v/\OwR w' w.heap.size v (FS g 64)/\AB w.heap.size w w':=by
 have z:g<=11:=Aa;go_enter func109,ntmps109;go_wp2;go_loopw [3,12] (fun u i wr=>∃ k:Nat,k<=64/\i=Y E k/\Hid (OwR wr w.heap.size u (FS g k))/\AB w.heap.size w wr) (fun _ i _=>64-(intOf i).toNat)
 case atStart=>exact⟨0,Aa,rfl,af _ _,AP _ _⟩
 case round=>
  obtain⟨k,A,rfl,l,a⟩:=hrel;by_cases o:k<64
  . have t:(k:Int)<64:=by omega
    have n:=wN (UY g k);have m:=wN (IF g k);cases d:CZ (64*g+(k:Int))
    . have h:=wN d
      have f:LV g k=(0,0):=(by unfold LV;rw[d];rfl);have j:=wN f;clear d f
      go_wp2_with (first
       |(go_at_call 154;refine Ad (Ks _ Aa _ h.out _) ?_;rintro r rfl)
       |(at_builtin
         refine IX _ 0 0 Af Af rfl (.tmp 22) (.tmp 24) rfl w.heap.size _ (FS g k) rfl (l.out.below (by first|exact AF _ _|exact(AF _ _).setCell (p:=⟨wr.heap.size,0,J⟩) (AE _) _)) (by rw[m.out];omega) (by simp;rfl) (by simp;have:=a.size;omega) ?_;intro q s b c))
      go_roundw
      case rel=>exact⟨k+1,Aa,by go_num,by show OwR _ _ _ (FS g (k+1));rw[n.out,j.out];exact b,(a.trans ((by first|exact AF _ _|exact(AF _ _).setCell (p:=⟨wr.heap.size,0,J⟩) (AE _) _:AB wr.heap.size wr _).mono a.size)).trans c⟩
      case measure=>simp[intOf];omega
    . have h:=wN d
      have f:LV g k=(65535,0):=(by unfold LV;rw[d];rfl);have j:=wN f;clear d f
      go_wp2_with (first
       |(go_at_call 154;refine Ad (Ks _ Aa _ h.out _) ?_;rintro r rfl)
       |(at_builtin
         refine IX _ 65535 0 Af Af rfl (.tmp 22) (.tmp 24) rfl w.heap.size _ (FS g k) rfl (l.out.below (by first|exact AF _ _|exact(AF _ _).setCell (p:=⟨wr.heap.size,0,J⟩) (AE _) _)) (by rw[m.out];omega) (by simp;rfl) (by simp;have:=a.size;omega) ?_;intro q s b c))
      go_roundw
      case rel=>exact⟨k+1,Aa,by go_num,by show OwR _ _ _ (FS g (k+1));rw[n.out,j.out];exact b,(a.trans ((by first|exact AF _ _|exact(AF _ _).setCell (p:=⟨wr.heap.size,0,J⟩) (AE _) _:AB wr.heap.size wr _).mono a.size)).trans c⟩
      case measure=>simp[intOf];omega
  . obtain rfl:k=64:=by omega
    go_wp2;go_ret;exact⟨_,rfl,l.out,a⟩
def XP(l:Ab):Prop:=l.length=256/\Jk (MB l 64) 64=AQ
def kO(l:Ab)(w:X)(e:Ending)(w':X):Prop:=
 (XP l/\∃ v,e=Av (AT #[v,Y E 0])/\OwR w' w.heap.size v (MB l 64)/\AB w.heap.size w w')\/
 (¬ XP l/\e=Av (AT #[I J 0 0,Y E 18])/\AB w.heap.size w w')
def pX{w:X}{v:d}{c:Ab}(h:BSl w v c)(k:c.length<=100000)(a:Nat)(j:a+2<=c.length)(y:Int)(i:y=Cs c a 2):AH Aq 183 #[v,Y E (a:Int),Y E 2] w fun e w'=>e=Av (AT #[Y .u64 y,AY AQ])/\w=w':=by
 have b:=Mu h Aa (a:Int) 2 Aa Aa;have g:QU c (a:Int) 2=y:=by unfold QU;rw[AG Aa,i];rfl
 have f:cp c (a:Int) 2=AQ:=AK Aa;rw[g,f] at b;exact b
def dH{w:X}(a:Option Addr)(len cap:Nat)(h:len≠256):AH Aq 260 #[I a len cap] w fun e w'=>e=Av (AT #[I J 0 0,Y E 18])/\w=w':=by
 have b:((len:Int) != 256)=AQ:=Ak;go_enter func260,ntmps260;go_wp2;go_ret2;exact⟨rfl,rfl⟩
def o0(l:Ab):FQ (MB l 64)=Jk (MB l 64) 64:=by rw[FQ,FX];rfl
def cX{w:X}{v:d}{l:Ab}(G:BSl w v l)(A:l.length=256):AH Aq 260 #[v] w (kO l w):=by
 obtain⟨ao,a4,rfl,_⟩:=G.shape;obtain⟨M,T⟩:∃ M:Nat,M=64:=⟨_,rfl⟩;have m:Hid ((64:Int)=(M:Int)):=wN Aa;have Sz:M<=1000:=Aa;have p:=wN T;have u:=wN G;have j:=wN A;rw[A] at u |-
 clear T G A;go_enter func260,ntmps260;go_wp2_with (at_make;refine Qe _ rfl _ _ rfl _ M rfl rfl m.out Aa ?_)
 have L:(w.alloc (Ay (Fx (AI M (0,0))).toArray 200)).heap[w.heap.size]? =H (Ay (Fx (OH (UA l) 0)).toArray 200 (0,0)):=by
  rw[eh,<- p.out];exact AC w _
 have f:AB w.heap.size w (w.alloc (Ay (Fx (AI M (0,0))).toArray 200)):=AF _ _;generalize w.alloc (Ay (Fx (AI M (0,0))).toArray 200)=w2 at L f |-
 have S:=wN L;clear L;go_loopw [16] (fun i wr=>∃ k:Nat,k<=64/\i=Y E k/\Hid (wr.heap[w.heap.size]? =H (Ay (Fx (OH (UA l) k)).toArray 200 (0,0)))/\AB w.heap.size w wr) (fun i _=>64-(intOf i).toNat)
 case atStart=>exact⟨0,Aa,rfl,S,f⟩
 case round=>
  obtain⟨k,hk,rfl,R,a⟩:=hrel;clear S f;by_cases C:k<64
  . have a5:(k:Int)<(M:Int):=by have:=m.out;omega
    have a6:k<M:=(by have:=p.out;omega);have ek:(k:Int)<64:=Aa;have b:=u.out.below a;have q:=pX b (by rw[j.out];decide) (4*k) (by rw[j.out];omega) _ rfl;have r:=pX b (by rw[j.out];decide) (4*k+2) (by rw[j.out];omega) _ rfl;have U:=Mc (Da b.1) (4*k);have V:=Mc (Da b.1) (4*k+2);have n:=iS (UA l) k;rw[UA] at n;obtain⟨x,Z⟩:=nm (Cs l (4*k) 2);obtain⟨y,hy⟩:=nm (Cs l (4*k+2) 2);rw[<- Z] at q U n;rw[<- hy] at r V n;rw[show((4*k:Nat):Int)=(k:Int)*4 by push_cast;omega] at q;rw[show((4*k+2:Nat):Int)=(k:Int)*4+2 by push_cast;omega] at r;have H1:=wN q;have H2:=wN r;have t:=wN n;clear q r Z hy b n;obtain⟨a0,a1⟩:=U;obtain⟨a2,a3⟩:=V
    go_wp2_with (first
     |(go_at_call 183;(with_reducible refine Ad H1.out ?_);rintro O rfl)|(go_at_call 183;(with_reducible refine Ad H2.out ?_);rintro O rfl)
     |(with_reducible refine OD rfl (.tmp 41) (.tmp 40) rfl w.heap.size k (OH (UA l) k) x y rfl rfl R.out (by rw[Oe];exact C) ?_;intro w4 K o
       rw[t.out] at o))
    go_roundw
    case rel=>exact⟨k+1,Aa,by go_num,o,a.trans (K.below (AE _))⟩
    case measure=>simp[intOf];omega
  . obtain rfl:k=64:=by omega
    have a7:¬ (64:Nat)<M:=(by have:=p.out;omega);have F:=R.out;rw[fw] at F;have N:=OwR.of_row (B:=w.heap.size) (iq (Da u.out.1) 64) (AE _) F (by rw[FX];decide);rw[FX] at N;have g:OwR wr w.heap.size (I (H ⟨w.heap.size,0,J⟩) M M) (MB l 64):=(by rw[p.out];exact N);clear N;have s:=wN g;have D:=o0 l;cases z:Jk (MB l 64) 64
    all_goals
     rw[z] at D;have Q:=wN z;have P:=wN (PH g.sl _ D);clear z D F
    all_goals clear g
    . go_wp2_with (go_at_call 267;refine Ad P.out ?_;rintro O c)
      go_ret2;exact A8 ⟨(fun h=>by have W:=h.2;rw[Q.out] at W;cases W),rfl,a.trans (c.mono a.size)⟩
    . go_wp2_with (go_at_call 267;refine Ad P.out ?_;rintro O c)
      go_ret2;exact A4 ⟨⟨j.out,Q.out⟩,_,rfl,s.out.below c,a.trans (c.mono a.size)⟩
def dV{w:X}{v:d}{l:Ab}(b:BSl w v l):AH Aq 260 #[v] w (kO l w):=by
 by_cases h:l.length=256
 . exact cX b h
 . obtain⟨c,a,rfl,_⟩:=b.shape
   exact(dH c _ a h).mono fun e i ⟨he,g⟩=>A8 ⟨fun f=>h f.1,he,by rw[<- g];exact AP _ _⟩
def pT:(Aq.info? 345).map (·.size)=H 2:=Ac
def JT:(Aq.info? 152).map (·.size)=H 2:=Ac
def ww{p q:d}(hp:p.oneCell'=AQ)(a:q.oneCell'=AQ):(#[p,q]:Array d).all (·.oneCell')=AQ:=by simp[hp,a]
def FC{b:Array BK}{rest:List BK}{o:BK}{a:Act}{w:X}{Q:Exit->Act->X->Prop}(i:o.guard=J)(c:Cn)(hi:(Aq.info? c).map (·.size)=H 2)(x y:Operand)(j:o.op=.store c x y)
 (g:Nat) (l:a.eval x=Ax (H ⟨g,0,J⟩)) (p q n r:d) (m:a.eval y=BS #[p,q]) (hp:p.oneCell'=AQ) (k:q.oneCell'=AQ) (T:Cn) (f:w.heap[g]? =H (Ay #[n,r] T (0,0)))
 (h:∀ w',Wrote w w' g->w'.heap[g]? =H (Ay #[p,q] T (0,0))->Cj Aq b Q rest (a.put o.dst undef) w'):Cj Aq b Q (o :: rest) a w:=
 C8 i c x y j g #[p,q] l m T _ f hi rfl (ww hp k) (h _ (Wrote.setRow _ _ _) (CJ _ _ _ _ _ _ f))
def I6{fn:Func}{p u:Tmp}{c:Cn}{fs}(h:fn.results=#[.cell p c,.tmp u])(hu:Aq.underlying c=H (.struct fs))(hi:(Aq.info? c).map (·.size)=H 2)
 (tmps:Array d) (w:X) (g:Nat) (T:Cn) (a b x:d) (hp:tmps.getD p undef=Ax (H ⟨g,0,J⟩)) (f:w.heap[g]? =H (Ay #[a,b] T (0,0))) (i:tmps.getD u undef=x):
 (results fn tmps).run Aq w=.ok (AT #[BS #[a,b],x]) w:=by
 rw[results_cell_tmp h,hp,i];simp only[asAddr,Sem.run_pure,Result.andThen_ok];rw[run_loadVar_row w g T c _ (0,0) _ f hu rfl (by rw[hi];rfl)];rfl
def BD{w w1:X}{g:Nat}{o:Obj}(h:w.heap[g]? =H o)(hb:AB w.heap.size w w1):w1.heap[g]? =H o:=(hb.block _ (Au.1 h).1).trans h
def OK(f:Nat->Bool)(k:Nat):List Bool:=(BE 64).map fun i=>if i<k then f i else AN
def J6(f:Nat->Bool)(k:Nat):(OK f k).length=64:=by simp[OK]
def iA(f:Nat->Bool)(k:Nat):(OK f k).set k (f k)=OK f (k+1):=by
 apply Bt (by simp[OK]);intro i a b;simp only[OK,Eh,Cu,Co];by_cases e:k=i
 . subst e;rw[AG rfl,AG Aa]
 . rw[AJ e]
   by_cases h:i<k
   . rw[AG h,AG Aa]
   . rw[AJ h,AJ Aa]
def eZ(f:Nat->Bool):OK f 0=AI 64 AN:=by
 rw[List.eq_replicate_iff];refine⟨J6 f 0,fun b a=>?_⟩;obtain⟨i,_,rfl⟩:=Ce.1 a;rw[AJ Aa]
def bJ(f:Nat->Bool):OK f 64=(BE 64).map f:=by
 unfold OK;apply Cr;intro i a;rw[AG (Bq.1 a)]
def mB(w:X):AH Aq 253 #[Y E 64] w fun e w'=>e=Av (Ax (H ⟨w.heap.size+1,0,J⟩))/\BRow w' (w.heap.size+1) w.heap.size (AI 64 AN)/\AB w.heap.size w w':=
 (aB 64 64 Af w Af).mono fun _ _ ⟨a,b,c,_⟩=>⟨a,b,c⟩
def Po{w:X}{p g:Nat}{L:List Bool}(h:BRow w p g L)(i:Nat)(hi:i<L.length)(on:Bool):
 AH Aq 254 #[Ax (H ⟨p,0,J⟩),Y E i,AY on] w fun e w'=>e=Av (Y E 0)/\BRow w' p g (L.set i on)/\Wrote w w' g:=
 (kI h i on).mono fun e w' he=>by rw[AG Aa,AG Aa] at he;exact he
def Ps{y:Int}(h:Gu 0 y=AQ):y=0:=by
 unfold Gu at h;rw[AG (A4 rfl)] at h;exact Ba h
def dy{w:X}{v:d}{O:Ag}(T:OwSl w v O)(g:Int)(a1:0<=g)(a2:g<12)(L:FQ O=AQ):
 AH Aq 268 #[Y E g,v] w fun e w'=>∃ p r,e=Av (AT #[BS #[Y E g,Ax (H ⟨p,0,J⟩)],Y E 0])/\BRow w' p r (CY O 64)/\AB w.heap.size w w':=by
 have n:=AF w (Ay #[Y E 0,Ax J] 345);have D:=AC w (Ay #[Y E 0,Ax J] 345);obtain⟨w1,t⟩:=nm (w.alloc (Ay #[Y E 0,Ax J] 345));rw[<- t] at n D;have SC:w.heap.size<w1.heap.size:=by rw[t];simp
 have H1:=wN t.symm;have W:=wN D;have IK:=T.below n;have HA:=wN (PH IK AQ L);have S:=I2 L;obtain⟨b,Q,a4,rfl,hb,hc⟩:=T.at Aa;have Up:∀ j,j<64->Ns O j=AQ:=by
  have:Jk O 64=AQ:=by rw[FQ,S] at L;simpa using L
  exact(MR O 64).1 this
 have U:=wN T.1;have HC:=wN hc;have HO:=wN S;have V:=wN Up;rw[S] at HA |-
 clear T IK t L hc S Up D;go_enter func268,ntmps268
 go_wp2_with (first|(go_at_call 270;rw[H1.out];refine Ad (Qr g a1 a2 _) ?_;rintro w2 rfl)|(go_at_call 267;refine Ad HA.out ?_;rintro w2 o;have M:=BD W.out o)|(go_at_call 253;refine Ad (mB _) ?_;rintro w3 ⟨K,C⟩;have N:=BD M C))
 obtain⟨r,hr⟩:=nm w2.heap.size;rw[<- hr] at K |-
 obtain⟨p,hp⟩:=nm (r+1);rw[<- hp] at K |-
 have a6:w.heap.size<r:=by have:=o.size;omega
 have a5:w.heap.size<p:=Aa;have u:AB w.heap.size w w3:=(n.trans (o.mono n.size)).trans (C.mono Aa);rw[<- eZ (ES O)] at K;have h:=wN K;have I:=wN N;clear hr hp K N M C o;go_loopw [21] (fun i wr=>∃ k:Nat,k<=64/\i=Y E k/\Hid (BRow wr p r (OK (ES O) k))/\Hid (wr.heap[w.heap.size]? =H (Ay #[Y E 0,Ax J] 345 (0,0)))/\AB w.heap.size w wr) (fun i _=>64-(intOf i).toNat)
 case atStart=>exact⟨0,Aa,rfl,h,I,u⟩
 case round=>
  obtain⟨k,hk,rfl,a,B,c⟩:=hrel;clear h I u;by_cases s:k<64
  . have q:=HC.out k (by rw[HO.out];exact s)
    have a0:=U.out k;have P:=V.out k s;have qj:ES O k=decide ((O.getD k (0,0)).1≠0):=rfl;rw[Ns] at P;obtain⟨x,hx⟩:=nm ((O.getD k (0,0)).1);obtain⟨y,hy⟩:=nm ((O.getD k (0,0)).2);rw[<- hx,<- hy] at q a0 P;rw[<- hx] at qj;have c1:=(c.cell (p:=⟨b,Q+k*2,J⟩) hb).trans q.1;have c2:=(c.cell (p:=⟨b,Q+k*2+1,J⟩) hb).trans q.2;have ek:(k:Int)<64:=Aa;have G:=iA (ES O) k;rw[qj] at G;have f:=a.out.lt;clear hx hy q qj;by_cases R:x=0
    . subst R
      obtain rfl:=Ps P;have A:=wN G;have l:=wN (Po (a.out.below (AF wr (Ay #[Y .u16 0,Y .u16 0] 200)) f.1 f.2) k (by rw[J6];exact s) AN);clear P G;go_wp2_with (go_at_call 254;refine Ad l.out ?_;rintro w4 ⟨Z,m⟩)
      go_roundw
      case rel=>exact⟨k+1,Aa,by go_num,by show BRow _ _ _ (OK (ES O) (k+1));rw[<- A.out];exact Z,by show w4.heap[w.heap.size]? =_;rw[m.2.2.2.2 _ Aa];exact BD B.out (AF _ _),(c.trans ((AF _ _).mono c.size)).trans (m.below Aa)⟩
      case measure=>simp[intOf];omega
    . have a7:(x==0)=AN:=by simpa using R
      rw[AK R] at G;have A:=wN G;have l:=wN (Po (a.out.below (AF wr (Ay #[Y .u16 x,Y .u16 y] 200)) f.1 f.2) k (by rw[J6];exact s) AQ);clear P G R;go_wp2_with (go_at_call 254;refine Ad l.out ?_;rintro w4 ⟨Z,m⟩)
      go_roundw
      case rel=>exact⟨k+1,Aa,by go_num,by show BRow _ _ _ (OK (ES O) (k+1));rw[<- A.out];exact Z,by show w4.heap[w.heap.size]? =_;rw[m.2.2.2.2 _ Aa];exact BD B.out (AF _ _),(c.trans ((AF _ _).mono c.size)).trans (m.below Aa)⟩
      case measure=>simp[intOf];omega
  . obtain rfl:k=64:=by omega
    have a3:=B.out;have f:=a.out.lt;go_wp2_with (with_reducible refine FC rfl 345 pT (.tmp 4) (.tmp 35) rfl w.heap.size rfl _ _ _ _ rfl rfl rfl _ a3 ?_;intro w5 F Du)
    refine A9 (I6 rfl underlying345 pT _ _ w.heap.size _ _ _ _ rfl Du rfl) rfl ⟨p,r,rfl,?_,c.trans (F.below (AE _))⟩;have z:=a.out;rw[bJ] at z;exact z.of_heap (F.2.2.2.2 _ Aa) (F.2.2.2.2 _ Aa)
def dM:(Aq.info? 4).map (fun i=>(i.zero,i.size,i.bytes))=H (H (AY AN),1,1):=Ac
def Pu(w:X)(l:Ab)(e:Ending)(w':X):Prop:=
 ∃ v,e=Av v/\BSl w' v l/\AB w.heap.size w w'
def aq{w:X}{g:Nat}{l:Ab}(hb:∀ j,0<=l.getD j 0/\l.getD j 0<=255)(b:w.heap[g]? =H (Ay (l.map (Y .u8)).toArray 5 (0,0)))(c:Nat)(a:l.length<=c):
 BSl w (I (H ⟨g,0,J⟩) l.length c) l:=by
 refine⟨hb,A8 ⟨_,c,rfl,a,fun j d=>⟨(Au.1 b).1,rfl,?_⟩⟩⟩;show w.cell? ⟨g,0+j,J⟩=_
 rw[BC,AD _ _ _ _ _ _ b];simp[d]
def j4{w:X}{p g:Nat}{L:List Bool}(h:BRow w p g L):
 AH Aq 271 #[Ax (H ⟨p,0,J⟩)] w fun e w'=>∃ l,Rep l L/\Pu w l e w':=by
 have S:=h.1;have i:=h.lt;obtain⟨l,r,R,A,m,K,M⟩:=h.cells;have a:=r.len;obtain⟨N,c⟩:=nm l.length;rw[<- c] at A m;have G:N<=600:=Aa;have D:=wN c;have P:=wN m;have b:AB w.heap.size w (w.alloc (Ay (AW N (Y .u8 0)) 5)):=(AP _ _).alloc (AE _) _;have f:(w.alloc (Ay (AW N (Y .u8 0)) 5)).heap[w.heap.size]? =H (Ay (AI N (Y .u8 0)).toArray 5 (0,0)):=by
  rw[AC];simp
 have d:(l.map (Y .u8)).length=N:=by rw[Bn,<- c]
 have k:N=Nat.min N N:=Ai;have s:0+(l.map (Y .u8)).length<=(AI N (Y .u8 0)).length:=by rw[Bn,<- c];simp
 have u:0<(l.map (Y .u8)).length->H (⟨w.heap.size,0,J⟩:Addr)=H ⟨w.heap.size,0,J⟩/\∃ x,H (⟨g,0,J⟩:Addr)=H x/\∀ j v,(l.map (Y .u8))[j]? =H v->(w.alloc (Ay (AW N (Y .u8 0)) 5)).cell? (x.add j)=H v:=fun _=>by
  refine⟨rfl,_,rfl,fun j v z=>?_⟩;have F:j<l.length:=by simpa using (Bo.1 z).1
  rw[Cd,BC,b.cell (by exact i.2),m j Aa,<- z];simp[F]
 have n:=wN f;have t:=wN d;have C:=wN k;have B:=wN s;have E:=wN u;have O:=wN a;have Q:(w.alloc (Ay (AW N (Y .u8 0)) 5)).cell? ⟨p,1,J⟩=H (I (H ⟨g,0,J⟩) N N):=by rw[b.cell (by exact i.1)];exact A
 clear c m f d k s u K M a;go_enter func271,ntmps271
 go_wp2_with (first|(at_make;refine CT _ rfl _ _ rfl _ N rfl rfl rfl Aa ?_)|(with_reducible refine Dc rfl _ _ 77 77 rfl 5 underlying77 Ac _ _ _ _ _ _ rfl rfl w.heap.size 0 (AI N (Y .u8 0)) 5 n.out (l.map (Y .u8)) N t.out C.out E.out B.out (ints_oneCell _ _) ?_;intro T o q))
 go_ret;refine⟨l,r,_,rfl,?_,b.trans (q.below (AE _))⟩;have y:=o.out;rw[EK _ _ (by rw[t.out];simp)] at y;rw[D.out];exact aq r.byte y _ Aa
def Xj{w:X}{p g:Nat}{L:List Bool}(h:BRow w p g L)(l:Ab)(c:Rep l L):
 AH Aq 271 #[Ax (H ⟨p,0,J⟩)] w (Pu w l):=
 (j4 h).mono fun e d ⟨m,b,a⟩=>by rw[SK c b];exact a
def part(L:List Bool)(k:Nat):List Bool:=L.take k ++ AI (L.length-k) AN
def Iu(L:List Bool)(k:Nat)(a:k<=L.length):(part L k).length=L.length:=by simp[part];omega
def Na(L:List Bool)(k j:Nat):(part L k).getD j AN=if j<k then L.getD j AN else AN:=by
 unfold part;simp only[Az];by_cases h:j<k
 . rw[AG h]
   by_cases a:j<L.length
   . rw[BT Ak,Bb,AG h]
   . rw[Bf (l:=L) Aa,Bf Ak]
 . rw[AJ h,List.getElem?_append]
   split
   . rename_i a;simp at a;omega
   . rw[CA];split <;> rfl
def da(L:List Bool):part L 0=AI L.length AN:=by simp[part]
def kK(L:List Bool)(k:Nat)(h:L.length<=k):part L k=L:=by simp[part,A2 h,show L.length-k=0 from Aa]
def Rg{A B:List Bool}(c:A.length=B.length)(h:∀ j,A.getD j AN=B.getD j AN):A=B:=by
 apply Bt c;intro j a b;have:=h j
 simpa [a,b] using this
def Sx(L:List Bool)(k:Nat)(c:k<L.length)(b:Bool)(hb:L.getD k AN=b):part L (k+1)=if b then (part L k).set k AQ else part L k:=by
 apply Rg
 . cases b <;> simp[Iu,Cy c,Nat.succ_le_of_lt c]
 . intro j
   rw[Na];cases b
   . simp only[Bool.false_eq_true,if_false,Na]
     by_cases a:j<k
     . rw[AG a,AG Aa]
     . rw[AJ a]
       by_cases e:j=k
       . rw[e,AG Aa,hb]
       . rw[AJ Aa]
   . simp only[if_true]
     rw[getD_set _ _ _ _ _ (by rw[Iu _ _ Aa];exact c),Na];by_cases e:j=k
     . rw[AG e,e,AG Aa,hb]
     . rw[AJ e]
       by_cases a:j<k
       . rw[AG a,AG Aa]
       . rw[AJ a,AJ Aa]
def ng(x:Int)(k:Nat)(c:k<8)(a:0<=x)(b:x<=255):bits BinOp.or IntKind.u8 x (2 ^ k%256)=if D6 x k then x else x+2 ^ k:=by
 have e:(2:Int) ^ k%256=IntKind.u64.wrap (2 ^ k)%256:=by
  have h:k=0\/k=1\/k=2\/k=3\/k=4\/k=5\/k=6\/k=7:=Aa;rcases h with rfl|rfl|rfl|rfl|rfl|rfl|rfl|rfl <;> decide
 rw[e,jq x k c a b]
end
section
open Go.RowKit Go.ChangeShapes Go.WideShapes
def KSl(w:X)(v:d)(k:List Bool):Prop:=
 (v=I J 0 0/\k=[])\/∃ a b,v=I (H a) k.length b/\∀ j,j<k.length->a.block<w.heap.size/\a.spot=J/\w.cell? ⟨a.block,a.off+j,J⟩=H (AY (k.getD j AN))
def KSl.below{w w':X}{v:d}{k:List Bool}(h:KSl w v k)(hb:AB w.heap.size w w'):KSl w' v k:=by
 rcases h with h| ⟨a,b,m,i⟩
 . exact A4 h
 . refine A8 ⟨a,b,m,fun j l=>?_⟩
   obtain⟨c,f,g⟩:=i j l;exact⟨AL c hb.size,f,by rw[hb.cell (p:=⟨a.block,a.off+j,J⟩) c,g]⟩
def KSl.shape{w:X}{v:d}{k:List Bool}(h:KSl w v k):∃ c cap,v=I c k.length cap:=by
 rcases h with⟨b,f⟩| ⟨a,cap,b,_⟩
 . exact⟨J,0,by rw[b,f];rfl⟩
 . exact⟨H a,cap,b⟩
end
section
open Go.RowKit BM
def KR(w:X)(B:Nat)(v:d)(L:List Bool):Prop:=w.ownsRow B 4 1 v L.length (L.map d.bool)
def KR.more{w:X}{B B':Nat}{v:d}{L:List Bool}(h:KR w B v L)(c:B'<=B):KR w B' v L:=by
 refine⟨h.1,?_⟩;rcases h.2 with h| ⟨g,a,b,i,f,r⟩
 . exact A4 h
 . exact A8 ⟨g,a,b,i,AU c f,r⟩
def rO(w:X)(B:Nat):KR w B (I J 0 0) []:=⟨Ai,A4 ⟨rfl,rfl⟩⟩
def KR.ksl{w:X}{B:Nat}{v:d}{L:List Bool}(h:KR w B v L):KSl w v L:=by
 rcases h.2 with⟨c,k⟩| ⟨g,a,b,c,p,f,m,n,o,l⟩
 . exact A4 ⟨c,A3 k⟩
 . refine A8 ⟨_,a,c,fun j i=>⟨(Au.1 f).1,rfl,?_⟩⟩
   show w.cell? ⟨g,0+j,J⟩=_
   rw[BC,AD _ _ _ _ _ _ f];have:(b.toList.take (L.length*1))[j]? =(L.map d.bool)[j]? :=(by rw[l]);rw[Bb,AG Aa] at this
   simpa [i] using this
def jk{w:X}{p:Nat}{v:d}{L:List Bool}(hp:w.cell? ⟨p,0,J⟩=H v)(t:KSl w v L)(G:L.length<=4096):
 AH Aq 113 #[Ax (H ⟨p,0,J⟩)] w fun e w'=>e=Av (Y E (Ec L))/\w=w':=by
 rcases t with⟨rfl,rfl⟩| ⟨⟨g,r,a⟩,A,rfl,m⟩
 . go_enter func113,ntmps113
   go_wp2;refine wp_loop_rounds 1 ?_;rw[rounds_succ];go_wp2;go_ret;exact⟨rfl,rfl⟩
 . have u:∀ j,j<L.length->w.cell? ⟨g,r+j,J⟩=H (AY (L.getD j AN)):=fun j D=>by
    obtain⟨_,F,B⟩:=m j D;exact B
   have s:0<L.length->a=J:=fun h=>(m 0 h).2.1
   clear m;have y:=wN u;have q:=wN s;clear u s;go_enter func113,ntmps113;go_wp2_with fail
   go_loop [3,10] (fun c i=>∃ k:Nat,k<=L.length/\i=Y E k/\c=Y E (Ec (L.take k))) (fun _ i=>L.length-(intOf i).toNat)
   case atStart=>exact⟨0,Aa,rfl,rfl⟩
   case round=>
    obtain⟨k,t,rfl,rfl⟩:=hrel;have z:=Kg L k;obtain⟨C,b⟩:=nm (Ec (L.take k));rw[<- b] at z |-
    by_cases n:k<L.length
    . obtain rfl:a=J:=q.out Aa
      have f:=N5 n;have m:=y.out k n;cases l:L.getD k AN
      . rw[l,AJ Af,<- b] at f
        rw[l] at m;have o:=wN f;clear l f b;go_wp2_with fail
        go_round
        case rel=>exact⟨k+1,Aa,by go_num,by rw[o.out];go_num⟩
        case measure=>simp[intOf];omega
      . rw[l,AG rfl,<- b] at f
        rw[l] at m;have o:=wN f;clear l f b;go_wp2_with fail
        go_round
        case rel=>exact⟨k+1,Aa,by go_num,by rw[o.out];go_num⟩
        case measure=>simp[intOf];omega
    . have x:=wN b
      clear b;go_wp2_with fail
      go_ret;exact⟨Je (by rw[x.out,A2 Aa]),rfl⟩
def KSl.open'{w:X}{v:d}{L:List Bool}(h:KSl w v L):∃ b cap,v=I b L.length cap/\(0<L.length->∃ g off,b=H ⟨g,off,J⟩/\g<w.heap.size/\∀ j,j<L.length->w.cell? ⟨g,off+j,J⟩=H (AY (L.getD j AN))):=by
 rcases h with⟨rfl,rfl⟩| ⟨⟨g,off,a⟩,cap,rfl,c⟩
 . exact⟨J,0,rfl,fun h=>by simp at h⟩
 . refine⟨_,cap,rfl,fun f=>?_⟩
   obtain⟨i,k,_⟩:=c 0 f;obtain rfl:a=J:=k;exact⟨g,off,rfl,i,fun j l=>(c j l).2.2⟩
def kM{w:X}{p:Nat}{v:d}{L:List Bool}(hp:w.cell? ⟨p,0,J⟩=H v)(h:p<w.heap.size)(r:KSl w v L)(hn:L.length<=4096)(l:Ab)(K:Rep l L):
 AH Aq 115 #[Ax (H ⟨p,0,J⟩)] w (Pu w l):=by
 have f:=K.len;obtain⟨Z,D,rfl,j⟩:=r.open';obtain⟨N,F⟩:=nm l.length;rw[<- F] at f;have P:((L.length:Int)+7) / 8=(N:Int):=Aa;have a0:N<=600:=Aa;have U:=wN F;have V:=wN j;have T:=wN P;have y:=wN f;have q:AB w.heap.size w (w.alloc (Ay (AW N (Y .u8 0)) 5)):=(AP _ _).alloc (AE _) _;have IK:(w.alloc (Ay (AW N (Y .u8 0)) 5)).cell? ⟨p,0,J⟩=H (I Z L.length D):=by rw[q.cell (by exact h)];exact hp
 clear F j P f r;go_enter func115,ntmps115;go_wp2_with (at_make;refine CT _ rfl _ _ rfl _ N rfl rfl T.out Aa ?_)
 go_loopw [18] (fun i wr=>∃ (k:Nat) (m:Ab),k<=L.length/\i=Y E k/\Hid (Rep m (part L k))/\Hid (wr.heap[w.heap.size]? =H (Ay (m.map (Y .u8)).toArray 5 (0,0)))/\AB w.heap.size w wr)
  (fun i _=>L.length-(intOf i).toNat)
 case atStart=>
  refine⟨0,AI ((L.length+7) / 8) 0,Aa,rfl,?_,?_,q⟩
  . rw[da];exact Z3 L.length
  . rw[AC,<- y.out];simp[Hid]
 case round=>
  obtain⟨k,m,r,rfl,a,c,b⟩:=hrel;have C:=a.out.len;rw[Iu L k r,<- y.out] at C;have z:=wN C;clear C;have hp:=(b.cell (p:=⟨p,0,J⟩) h).trans hp;by_cases u:k<L.length
  . obtain⟨g,M,rfl,W,O⟩:=V.out Aa
    have G:k / 8<N:=(by have:=y.out;omega);have R:(k:Int) / 8<(N:Int):=Aa;have S:=(b.cell (p:=⟨g,M+k,J⟩) W).trans (O k u);clear O;cases o:L.getD k AN
    . rw[o] at S
      have A:=wN (Sx L k u AN o);clear o;go_wp2_with fail
      go_roundw
      case rel=>
       refine⟨k+1,m,Aa,by go_num,?_,c,b⟩;have:=A.out;rw[AJ Af] at this;rw[this];exact a
      case measure=>simp[intOf];omega
    . rw[o] at S
      have A:=wN (Sx L k u AQ o);have n:=a.out.byte (k / 8);obtain⟨x,j⟩:=nm (m.getD (k / 8) 0);have MV:wr.cell? ⟨w.heap.size,k / 8,J⟩=H (Y .u8 x):=by
       rw[AD _ _ _ _ _ _ c.out,j];simp[z.out,G]
      have Kl:wr.frozen? ⟨w.heap.size,k / 8,J⟩=AN:=frozen_of_row _ _ _ _ _ c.out;rw[<- j] at n;have B:=wN j;clear o j;go_wp2_with fail
      go_region
      go_wp2_with fail
      go_roundw
      case rel=>
       have rQ:k%8<8:=JE _ Aa;have h:k<(part L k).length:=(by rw[Iu L k r];exact u);have t:=ah a.out k AQ h (bits BinOp.or IntKind.u8 x (2 ^ (k%8)%256)) (by rw[ng x _ rQ n.1 n.2,<- B.out];rfl);have Q:=A.out;rw[AG trivial] at Q;refine⟨k+1,_,Aa,by go_num,by rw[Q];exact t,?_,?_⟩
       . show(wr.setCell _ _).heap[w.heap.size]? =_
         rw[Bk _ _ _ _ _ _ c.out,List.map_set];simp
       . exact(b.setCell (p:=⟨w.heap.size,k / 8,J⟩) (AE _) _).drew
      case measure=>simp[intOf];omega
  . go_wp2_with fail
    go_ret;have s:=a.out;rw[kK L k Aa] at s;obtain rfl:m=l:=SK s K;exact⟨_,rfl,by rw[U.out];exact aq K.byte c.out _ (by first|omega|exact AE _),b⟩
def R5{w:X}{v:d}{O:Ag}(c:OwSl w v O)(h:FQ O=AQ):AH Aq 68 #[v] w fun e w'=>∃ v,e=Av (AT #[v,Y E 0])/\BSl w' v (DO O)/\AB w.heap.size w w':=
 (Qp c).mono fun e w' b=>b.elim (fun a=>a.2) fun a=>by rw[h] at a;cases a.1
def XK{w:X}{v:d}{O:Ag}(c:OwSl w v O)(h:FQ O=AN):AH Aq 68 #[v] w fun e w'=>e=Av (AT #[I J 0 0,Y E 1])/\AB w.heap.size w w':=
 (Qp c).mono fun e w' b=>b.elim (fun a=>by rw[h] at a;cases a.1) fun a=>a.2
def tZ{w:X}{v:d}{O:Ag}(r:OwSl w v O)(g:Int)(h:¬ ((0<=g/\g<12)/\FQ O=AQ)):
 AH Aq 69 #[Y E g,v] w fun e w'=>e=Av (AT #[BS #[Y E 0,I J 0 0],Y E 1])/\AB w.heap.size w w':=by
 have a:=AF w (Ay #[Y E 0,I J 0 0] 152);have j:=AC w (Ay #[Y E 0,I J 0 0] 152);obtain⟨A,k⟩:=nm (w.alloc (Ay #[Y E 0,I J 0 0] 152));rw[<- k] at a j;have p:=wN k.symm;have l:=wN j;have o:=r.below a;cases m:FQ O
 . have n:=wN (XK o m)
   clear r o h m k j;by_cases q:g<0
   all_goals (try (by_cases y:11<g))
   all_goals
    go_enter func69,ntmps69
    go_wp2_with (first|(go_at_call 68;rw[p.out];refine Ad n.out ?_;rintro t b;have c:=BD l.out b)|(with_reducible refine FC rfl 152 JT (.tmp 4) (.tmp 25) rfl w.heap.size rfl _ _ _ _ rfl rfl rfl _ c ?_;intro u i f))
    exact A9 (I6 rfl underlying152 JT _ _ w.heap.size _ _ _ _ rfl f rfl) rfl ⟨rfl,(a.trans (b.mono a.size)).trans (i.below (AE _))⟩
 . have n:=wN (R5 o m)
   have s:g<0\/11<g:=by
    by_cases q:0<=g/\g<12
    . exact absurd ⟨q,m⟩ h
    . omega
   clear r o h m k j;by_cases q:g<0
   . clear s
     go_enter func69,ntmps69
     go_wp2_with (first|(go_at_call 68;rw[p.out];refine n.out.mono ?_;rintro e t ⟨z,rfl,x,b⟩;have c:=BD l.out b)|(with_reducible refine FC rfl 152 JT (.tmp 4) (.tmp 25) rfl w.heap.size rfl _ _ _ _ rfl rfl rfl _ c ?_;intro u i f))
     exact A9 (I6 rfl underlying152 JT _ _ w.heap.size _ _ _ _ rfl f rfl) rfl ⟨rfl,(a.trans (b.mono a.size)).trans (i.below (AE _))⟩
   . have y:11<g:=by omega
     clear s;go_enter func69,ntmps69
     go_wp2_with (first|(go_at_call 68;rw[p.out];refine n.out.mono ?_;rintro e t ⟨z,rfl,x,b⟩;have c:=BD l.out b)|(with_reducible refine FC rfl 152 JT (.tmp 4) (.tmp 25) rfl w.heap.size rfl _ _ _ _ rfl rfl rfl _ c ?_;intro u i f))
     exact A9 (I6 rfl underlying152 JT _ _ w.heap.size _ _ _ _ rfl f rfl) rfl ⟨rfl,(a.trans (b.mono a.size)).trans (i.below (AE _))⟩
def KR.wrote{w w':X}{B g:Nat}{v:d}{L:List Bool}(h:KR w B v L)(l:Wrote w w' g)(c:∀ m,v.ownBlock=H m->m≠g):KR w' B v L:=by
 refine⟨h.1,?_⟩;rcases h.2 with h| ⟨k,a,b,f,i,j,r⟩
 . exact A4 h
 . exact A8 ⟨k,a,b,f,i,by rw[l.2.2.2.2 k (c k (by rw[f];rfl))];exact j,r⟩
def bO{w wr w3:X}{a b cap:Nat}{g:Int}{n:d}{L:List Bool}{l:Bool}{T:Cn}{Z:Obj}(hd:wr.heap[a]? =H (Ay #[Y E g,n] T (0,0)))(s:KR wr (a+1) n L)
 (C:wr.heap[w.heap.size]? =H Z) (B:w.heap.size<a) (hb:AB w.heap.size w wr) (c:((wr.alloc (Ay #[AY l] 4)).drew).grownBy w3 n.ownBlock)
 (f:w3.ownsRow (a+1) 4 1 (I (H ⟨b,0,J⟩) (L.length+1) cap) (L.length+1) (L.map d.bool ++ [AY l])):
 (w3.setCell ⟨a,1,J⟩ (I (H ⟨b,0,J⟩) (L.length+1) cap)).heap[a]? =H (Ay #[Y E g,I (H ⟨b,0,J⟩) (L.length+1) cap] T (0,0))/\
 KR (w3.setCell ⟨a,1,J⟩ (I (H ⟨b,0,J⟩) (L.length+1) cap)) (a+1) (I (H ⟨b,0,J⟩) (L.length+1) cap) (L ++ [l])/\
 (w3.setCell ⟨a,1,J⟩ (I (H ⟨b,0,J⟩) (L.length+1) cap)).heap[w.heap.size]? =H Z/\AB w.heap.size w (w3.setCell ⟨a,1,J⟩ (I (H ⟨b,0,J⟩) (L.length+1) cap)):=by
 have D:a<wr.heap.size:=(Au.1 hd).1;have u:∀ m,n.ownBlock=H m->a+1<=m:=fun m A=>(BY s m A).1
 have i:AB wr.heap.size wr (wr.alloc (Ay #[AY l] 4)).drew:=(AF _ _).drew;have j:∀ k,k<=a->w3.heap[k]? =wr.heap[k]? :=fun k v=>by
  rw[c.block k Ak (fun e=>by have:=u k e.symm;omega)];exact i.block k Aa
 refine⟨?_,?_,?_,?_⟩
 . rw[Bk w3 a 1 _ _ _ ((j a (AE _)).trans hd)];rfl
 . rcases f.2 with⟨t,_⟩| ⟨x,h,o,t,y,z,r⟩
   . simp at t
   . obtain⟨rfl,rfl⟩:b=x/\cap=h:=by simpa using t
     have e:(L ++ [l]).length=L.length+1:=Ai;rw[KR,e,Cw];exact⟨f.1,A8 ⟨b,cap,o,rfl,y,by rw[AZ w3 ⟨a,1,J⟩ b _ (show b≠a from Aa)];exact z,r⟩⟩
 . rw[AZ w3 ⟨a,1,J⟩ _ _ (show w.heap.size≠a from Aa),j _ Aa];exact C
 . have q:AB w.heap.size w w3:=(hb.trans (i.mono hb.size)).grown c (by simp;have:=hb.size;omega) (fun k v=>by have:=u k v;omega)
   exact q.setCell (p:=⟨a,1,J⟩) (by show w.heap.size<=a;omega) _
def bF{w:X}{v:d}{O:Ag}(Q:OwSl w v O)(g:Int)(b0:0<=g)(b1:g<12)(ha:FQ O=AQ):
 AH Aq 69 #[Y E g,v] w fun e w'=>∃ v,e=Av (AT #[BS #[Y E g,v],Y E 0])/\KR w' w.heap.size v (CY O 64)/\AB w.heap.size w w':=by
 have l:=AF w (Ay #[Y E 0,I J 0 0] 152);have A:=AC w (Ay #[Y E 0,I J 0 0] 152);obtain⟨w1,q⟩:=nm (w.alloc (Ay #[Y E 0,I J 0 0] 152));rw[<- q] at l A;have SC:w.heap.size<w1.heap.size:=by rw[q];simp
 have H1:=wN q.symm;have V:=wN A;have IK:=Q.below l;have HA:=wN (R5 IK ha);have hO:=I2 ha;obtain⟨b,a7,a0,rfl,hb,hc⟩:=Q.at Aa;have HC:=wN hc;have T:=wN Q.1;have HO:=wN hO;have g1:¬ 11<g:=Aa;have g0:¬ g<0:=Aa;rw[hO] at HA |-
 clear Q IK q ha hc hO A;go_enter func69,ntmps69
 go_wp2_with (first|(go_at_call 68;rw[H1.out];refine HA.out.mono ?_;rintro e S ⟨v2,rfl,Oq,n⟩;have M:=BD V.out n))
 have o:=AF S (Ay #[Y E g,I J 0 0] 152);have K:=AC S (Ay #[Y E g,I J 0 0] 152);generalize S.alloc (Ay #[Y E g,I J 0 0] 152)=r at o K |-
 have N:=BD M o;obtain⟨a,Dx⟩:=nm S.heap.size;rw[<- Dx] at K |-
 have a6:w.heap.size<a:=by have:=n.size;omega
 have s:AB w.heap.size w r:=(l.trans (n.mono l.size)).trans (o.mono Aa);have qk:a<r.heap.size:=(Au.1 K).1;have D:=wN K;have F:=wN N;clear K N M o n Oq Dx;go_loopw [30] (fun i wr=>∃ k:Nat,k<=64/\i=Y E k/\∃ h,Hid (wr.heap[a]? =H (Ay #[Y E g,h] 152 (0,0)))/\Hid (KR wr (a+1) h (CY O k))/\Hid (wr.heap[w.heap.size]? =H (Ay #[Y E 0,I J 0 0] 152 (0,0)))/\AB w.heap.size w wr) (fun i _=>64-(intOf i).toNat)
 case atStart=>exact⟨0,Aa,rfl,_,D,rO _ _,F,s⟩
 case round=>
  obtain⟨k,hk,rfl,h,B,f,G,y⟩:=hrel;clear D F s;by_cases a4:k<64
  . have z:=HC.out k (by rw[HO.out];exact a4)
    have a1:=T.out k;have R:ES O k=decide ((O.getD k (0,0)).1≠0):=rfl;have lZ:=Qb O k;obtain⟨x,hx⟩:=nm ((O.getD k (0,0)).1);rw[<- hx] at z a1 R;have c1:=(y.cell (p:=⟨b,a7+k*2,J⟩) hb).trans z.1;have c2:wr.cell? ⟨a,1,J⟩=H h:=(by rw[AD _ _ _ _ _ _ B.out];rfl);have ek:(k:Int)<64:=Aa;obtain⟨C,rV⟩:=nm (ES O k);rw[<- rV] at lZ R;have b3:(x != 0)=C:=by rw[R];by_cases h0:x=0 <;> simp[h0]
    have W:=wN lZ;have Z:=wN (EL O k);clear hx z R rV lZ;obtain⟨i,a2,a3,gk,lv⟩:=Bs dM;have o6:(d.bool AN).cells.size=1:=rfl;have Ui:a<wr.heap.size:=(Au.1 B.out).1;have Uh:∀ m,h.ownBlock=H m->a+1<=m:=fun m hm=>(BY f.out m hm).1
    have lw:H a≠h.ownBlock:=fun e=>by have:=Uh a e.symm;omega
    have fz:wr.frozen? ⟨a,1,J⟩=AN:=frozen_of_row _ _ _ _ _ B.out;have L:∀ r,((wr.alloc (Ay #[AY C] 4)).drew).grownBy r h.ownBlock->r.cell? ⟨a,1,J⟩=H h/\r.frozen? ⟨a,1,J⟩=AN:=fun r hg=>by
     have WN:a<((wr.alloc (Ay #[AY C] 4)).drew).heap.size:=Ak;rw[hg.cell_far _ WN lw,hg.frozen_far _ WN lw];exact⟨by rw[X.cell?_drew,Dh _ _ _ Ui];exact c2,by rw[X.frozen?_drew,X.frozen?_alloc_past _ _ _ Ui];exact fz⟩
    have U:=wN L;have a8:=wN Uh;have b2:(CY O k).length<=64:=(by rw[Z.out];exact hk);have rW:∀ u∈[d.bool C],u.oneCell'=AQ:=fun u hu=>by simp at hu;subst hu;rfl
    clear L Uh lw;go_wp2
    go_region_law
     ((refine step_append_lies _ Aj _ _ _ Aj (a+1) 4 i _ 1 1 underlying150 a2 a3 gk lv o6 Aa h (CY O k).length ((CY O k).map d.bool) Aj ((f.out.alloc _).drew)
        ⟨wr.heap.size,0,J⟩ 1 1 [d.bool C] Aj Aj (X.news_of_block (cs:=#[d.bool C]) (t:=4) (fr:=(0,0)) (AC wr _)) rW
        Aa (by simp only[maxLen];omega) Aa Ak (wr.heap.size+1) Ai ?_;intro gg a0 r SD c GB a9;obtain⟨c3,f3⟩:=U.out r c))
    all_goals
     have j:=wN (bO B.out f.out G.out a6 y c SD);clear SD c GB;go_wp2;go_roundw
     case rel=>exact⟨k+1,Aa,by go_num,_,j.out.1,by show KR _ _ _ (CY O (k+1));rw[W.out];exact j.out.2.1,j.out.2.2.1,j.out.2.2.2⟩
     case measure=>simp[intOf];omega
  . obtain rfl:k=64:=by omega
    have d0:wr.cell? ⟨a,0,J⟩=H (Y E g):=(by rw[AD _ _ _ _ _ _ B.out];rfl);have d1:wr.cell? ⟨a,1,J⟩=H h:=(by rw[AD _ _ _ _ _ _ B.out];rfl);have a5:=G.out;obtain⟨aL,cL,rfl⟩:=f.out.ksl.shape;go_wp2_with (with_reducible refine FC rfl 152 JT (.tmp 4) (.tmp 45) rfl w.heap.size rfl _ _ _ _ rfl rfl rfl _ a5 ?_;intro w5 P Du)
    refine A9 (I6 rfl underlying152 JT _ _ w.heap.size _ _ _ _ rfl Du rfl) rfl ⟨_,rfl,?_,y.trans (P.below (AE _))⟩;exact(f.out.more Aa).wrote P (fun m hm=>by have:=(BY f.out m hm).1;omega)
def rK{w:X}{B:Nat}{v:d}{O:Ag}(h:OwR w B v O)(n:Nat)(b:O.length=n)(f:0<n):∃ g cap,v=I (H ⟨g,0,J⟩) n cap:=by
 rcases h.2.2 with⟨_,i⟩| ⟨g,cap,a,c,_⟩
 . omega
 . exact⟨g,cap,by rw[c,b]⟩
def Jf{O:Ag}(h:O.length=64):(DO O).length=256:=by rw[DO,Fh,h]
def WF(a:X):BSl (a.alloc (Ay #[Y .u8 100,Y .u8 101,Y .u8 115,Y .u8 99] 5 (4,5))) (I (H ⟨a.heap.size,0,J⟩) 4 4) [100,101,115,99]:=by
 refine⟨CV Af,A8 ⟨_,4,rfl,Af,fun j b=>⟨Ai,rfl,?_⟩⟩⟩;have b:j<4:=b;have c:(a.alloc (Ay #[Y .u8 100,Y .u8 101,Y .u8 115,Y .u8 99] 5 (4,5))).heap[a.heap.size]? =H (Ay #[Y .u8 100,Y .u8 101,Y .u8 115,Y .u8 99] 5 (4,5)):=by
  show(a.heap.push _)[a.heap.size]? =_
  simp
 rw[BC,AD _ _ _ _ _ _ c];have:j=0\/j=1\/j=2\/j=3:=Aa;rcases this with rfl|rfl|rfl|rfl <;> rfl
def BRow.low{w w':X}{p r:Nat}{L:List Bool}(h:BRow w p r L)(hb:AB w.heap.size w w'):BRow w' p r L:=h.below hb h.lt.1 h.lt.2
def pJ{w:X}{v:d}{l:Ab}(b:BSl w v l)(f:l.length<=1000)(x:Int)(a:0<=x)(c:x<=65535):AH Aq 133 #[v,Y .u64 x,Y E 2] w (J8 w (l ++ B8 x 2)):=
 FK b Aa x 2 2 Aa Aa rfl a Aa
def bC{w:X}{p r:Nat}{L:List Bool}(hr:BRow w p r L)(g:Int)(h1:0<=g)(h2:g<12)(I:L.length=64):
 AH Aq 269 #[BS #[Y E g,Ax (H ⟨p,0,J⟩)]] w fun e w'=>∃ v,e=Av (AT #[v,Y E 0])/\OB w' w.heap.size v (Gz g L)/\AB w.heap.size w w':=by
 have h:=AF w (Ay #[Y E g,Ax (H ⟨p,0,J⟩)] 345);have i:=AC w (Ay #[Y E g,Ax (H ⟨p,0,J⟩)] 345);obtain⟨b,t⟩:=nm (w.alloc (Ay #[Y E g,Ax (H ⟨p,0,J⟩)] 345));rw[<- t] at h i;have H1:=wN t.symm;have j:=wN (hr.low h);have m:=VZ j.out;rw[I] at m;have u:=wN m;have aY:=Kv L;obtain⟨C,R⟩:=nm (Ec L);rw[<- R,I] at aY;have HC:=wN R;have HL:=wN I;have a0:=wN i;have z:w.heap.size<b.heap.size:=(Au.1 i).1;have c0:b.cell? ⟨w.heap.size,0,J⟩=H (Y E g):=by rw[AD _ _ _ _ _ _ i];rfl
 have c1:b.cell? ⟨w.heap.size,1,J⟩=H (Ax (H ⟨p,0,J⟩)):=by rw[AD _ _ _ _ _ _ i];rfl
 have kc:=fun(w:X) (C:Array d) (n c:Nat)=>E4 (P:=Aq) w 77 5 C n c underlying77 underlying5
 clear hr m R I i t;go_enter func269,ntmps269
 go_wp2_with (first|(go_at_call 270;rw[H1.out];refine Ad (Qr g h1 h2 _) ?_;rintro w2 rfl)|(go_at_call 255;refine Ad u.out ?_;rintro w2 rfl))
 have s:=WF b;have q:=AF b (Ay #[Y .u8 100,Y .u8 101,Y .u8 115,Y .u8 99] 5 (4,5));generalize b.alloc (Ay #[Y .u8 100,Y .u8 101,Y .u8 115,Y .u8 99] 5 (4,5))=w2 at s q |-
 have K:=wN (pJ s Af g h1 Aa);clear s kc
 go_wp2_with (first
  |(go_at_call 133;(with_reducible refine K.out.mono ?_);rintro e G ⟨v4,rfl,A,S⟩
    have a:AB b.heap.size b G:=q.trans (S.mono q.size);have x1:G.cell? ⟨w.heap.size,1,J⟩=H (Ax (H ⟨p,0,J⟩)):=(a.cell (p:=⟨w.heap.size,1,J⟩) z).trans c1;have N:=wN (j.out.low a))
  |(go_at_call 235;refine(QE N.out).mono ?_;rw[<- HC.out];rintro e w5 ⟨rfl,m5,rfl⟩
    have y1:(G.drewN m5).cell? ⟨w.heap.size,1,J⟩=H (Ax (H ⟨p,0,J⟩)):=x1;have M:=wN (pJ (A.bsl.drewN m5) (by rw[AO,Bp];decide) (C:Int) Aa Aa))
  |(go_at_call 133;(with_reducible refine M.out.mono ?_);rintro e W ⟨v6,rfl,B,l⟩
    have x:AB G.heap.size G W:=⟨l.os,l.tape,l.output,l.size,l.block⟩;have f:AB b.heap.size b W:=a.trans (x.mono a.size);have z1:W.cell? ⟨w.heap.size,1,J⟩=H (Ax (H ⟨p,0,J⟩)):=(f.cell (p:=⟨w.heap.size,1,J⟩) z).trans c1;have O:=wN (j.out.low f))
  |(go_at_call 271;refine(Xj O.out (IC L) (Qu L)).mono ?_;rintro e w7 ⟨v7,rfl,V,y⟩
    have o:AB b.heap.size b w7:=f.trans (y.mono f.size))
  |(at_builtin
    refine B0 w7 rfl (.tmp 27) (.tmp 30) rfl b.heap.size _ ([100,101,115,99] ++ B8 g 2 ++ B8 (C:Int) 2) rfl ((B.below y).more (by have:=a.size;simpa using this)) w7 v7 (IC L) rfl V (fun _ _=>rfl) (by rw[ET,HL.out];simp[Bp]) o.size ?_;intro v8 Z D T _;have k:AB b.heap.size b Z:=o.trans T;have Q:Hid (AH Aq 187 #[v8] Z (O5 (O7 g L) Z)):=wN (by rw[O7,<- HC.out];exact Kr D.bsl (by rw[AO,ET,HL.out];simp[Bp])))|(go_at_call 187;refine Q.out.mono ?_;rintro e w9 ⟨v9,rfl,F,U⟩))
 go_ret2;exact⟨v9,rfl,F.more (AU h.size k.size),(h.trans (k.mono h.size)).trans (U.mono (AU h.size k.size))⟩
def ic(n:Nat)(h:n<=4096)(w:X):AH Aq 253 #[Y E n] w fun e w'=>e=Av (Ax (H ⟨w.heap.size+1,0,J⟩))/\BRow w' (w.heap.size+1) w.heap.size (AI n AN)/\AB w.heap.size w w':=
 (aB n n h w (by rw[AJ Aa,AJ Aa])).mono fun _ _ ⟨a,b,c,_⟩=>⟨a,b,c⟩
end
section
open Go.RowKit
def bV{l m:Ab}(k:Fv l)(o:Fv m)(h:(B7 l).data.toList=(B7 m).data.toList):l=m:=by
 have e:l.map (fun n=>UInt8.ofNat n.toNat)=m.map (fun n=>UInt8.ofNat n.toNat):=by
  rw[<- strOfNums_data,<- strOfNums_data,h]
 have c:l.length=m.length:=by simpa using BF List.length e
 apply Bt c;intro i d f;have g:=BF (fun z=>z[i]?) e;simp[d,f] at g;have a:=Da k l[i] (Br d);have b:=Da o m[i] (Br f);have j:=BF UInt8.toNat g;simp at j;omega
def Ep{w:X}{u v:d}{l m:Ab}(hu:BSl w u l)(hv:BSl w v m):AH Aq 152 #[u,v] w fun e w'=>e=Av (AY (decide (l=m)))/\w=w':=by
 have g:=Hw hu;have i:=Hw hv;have a:=hu.1;have b:=hv.1;have c:((B7 l).toList==(B7 m).toList)=decide (l=m):=by
  by_cases e:l=m
  . rw[AK e,e];exact beq_self_eq_true _
  . rw[AM e,Cg,Cg]
    rw[beq_eq_false_iff_ne];exact fun h=>e (bV a b h)
 have f:=wN c;clear hu hv a b c;go_enter func152,ntmps152;go_wp2;go_ret;exact⟨by rw[<- f.out];rfl,rfl⟩
def TZ(x:Int):Bool:=decide (0<=x/\x<=767)
def Xy(N:Ab)(i:Nat):Bool:=(N.take i).all fun x=>!(x==N.getD i 0)
def Za(N:Ab)(D:Ae)(i:Nat):Bool:=TZ (N.getD i 0) && (decide ((D.getD i []).length=256) && Xy N i)
def aT(N:Ab)(D:Ae)(k:Nat):Bool:=(BE k).all fun i=>Za N D i
def Gc(N:Ab)(D:Ae):Bool:=decide (N.length<=37) && (decide (D.length=N.length) && aT N D N.length)
def M9(N:Ab)(D:Ae)(k:Nat):aT N D k=AQ ↔ ∀ i,i<k->Za N D i=AQ:=by
 unfold aT;rw[Dn];exact⟨fun h i a=>h i (Bq.2 a),fun h i a=>h i (Bq.1 a)⟩
def cV{N:Ab}{D:Ae}(h:37<N.length):Gc N D=AN:=by
 unfold Gc;rw[AM Aa];rfl
def iR{N:Ab}{D:Ae}(h:D.length≠N.length):Gc N D=AN:=by
 unfold Gc;rw[AM h];cases decide (N.length<=37) <;> rfl
def EM{N:Ab}{D:Ae}(h:Gc N D=AQ):N.length<=37/\D.length=N.length/\∀ i,i<N.length->(0<=N.getD i 0/\N.getD i 0<=767)/\(D.getD i []).length=256/\Xy N i=AQ:=by
 unfold Gc at h;rw[A0,A0,Bh,Bh] at h;refine⟨h.1,h.2.1,fun i a=>?_⟩;have:=(M9 N D _).1 h.2.2 i a;unfold Za TZ at this;rw[A0,A0,Bh,Bh] at this;exact⟨this.1,this.2.1,this.2.2⟩
def Pc(N:Ab)(i:Nat)(hi:i<N.length):Xy N i=AQ ↔ ∀ j,j<i->N.getD j 0≠N.getD i 0:=by
 unfold Xy;rw[Dn];constructor
 . intro h j a
   have b:j<(N.take i).length:=(by rw[AV];omega);have:=h _ (Br b);rw[Uo] at this;have e:N.getD j 0=N[j]'Aa:=(by simp[show j<N.length from Aa]);rw[e]
   simpa using this
 . intro h x c
   obtain⟨j,a,rfl⟩:=CC c;rw[AV] at a;rw[Uo];have:=h j Aa;have e:N.getD j 0=N[j]'Aa:=(by simp[show j<N.length from Aa]);rw[e] at this
   simpa using this
def jrnl:Ab:=[106,114,110,108]
def Qy:Ab:=[100,111,110,101]
def IM(N:Ab):Ab:=N.flatMap fun n=>B8 n 2
def CB(q:Int)(N:Ab):Ab:=jrnl ++ B8 q 4 ++ B8 (N.length:Int) 2 ++ IM N
def DZ(q:Int):Ab:=Qy ++ B8 q 4
def Iy(q:Int)(N:Ab)(D:Ae):Ae:=BV (CB q N) :: (D ++ [BV (DZ q)])
def Kj(N:Ab):(IM N).length=2*N.length:=by
 unfold IM;induction N with
 |nil=>rfl
 |cons x N ih=>rw[CL,AO,ih,Bp,BJ];omega
def eM(N:Ab)(x:Int):IM (N ++ [x])=IM N ++ B8 x 2:=by
 unfold IM;rw[DY];simp
def dY(N:Ab)(k:Nat)(h:k<N.length):IM (N.take (k+1))=IM (N.take k) ++ B8 (N.getD k 0) 2:=by
 rw[BI h,eM];simp[h]
def Gk(q:Int)(N:Ab):(CB q N).length=10+2*N.length:=by
 simp only[CB,AO,Bp,Kj];have:jrnl.length=4:=rfl;omega
def JZ(q:Int):(DZ q).length=8:=by
 rw[DZ,AO,Bp];rfl
def Mh(q:Int)(N:Ab)(D:Ae):(Iy q N D).length=D.length+2:=by simp[Iy]
def j9:Fv jrnl:=CV fun x a=>by simp[jrnl] at a;omega
def ka:Fv Qy:=CV fun x a=>by simp[Qy] at a;omega
def Hr(A R:Ab)(n:Int)(k:Nat)(h:0<=n)(a:Nat)(b:A.length=a):Cs (A ++ (B8 n k ++ R)) a k=n%256 ^ k:=by
 subst b;unfold Cs;rw[List.drop_left,DC (Bp n k),Ke n k h]
def Ss(q:Int)(N:Ab)(h:N.length<=37):(BV (CB q N)).take 252=DI (CB q N):=by
 rw[BV,DC];exact EN _ (by rw[Gk];omega)
def V6(q:Int)(N:Ab)(a:0<=q)(b:q<4294967296):Cs (DI (CB q N)) 4 4=q:=by
 have e:DI (CB q N)=jrnl ++ (B8 q 4 ++ (B8 (N.length:Int) 2 ++ (IM N ++ AI (252-(CB q N).length) 0))):=by
  unfold DI CB;simp
 rw[e,Hr _ _ q 4 a 4 rfl];exact DV a (by simpa using b)
def QG(q:Int)(N:Ab)(h:N.length<=37):Cs (DI (CB q N)) 8 2=(N.length:Int):=by
 have e:DI (CB q N)=(jrnl ++ B8 q 4) ++ (B8 (N.length:Int) 2 ++ (IM N ++ AI (252-(CB q N).length) 0)):=by
  unfold DI CB;simp
 have a:(jrnl ++ B8 q 4).length=8:=by rw[AO,Bp];rfl
 rw[e,Hr _ _ _ 2 Aa 8 a];exact DV Aa Aa
def Ya(N:Ab)(i:Nat)(hi:i<N.length):IM N=IM (N.take i) ++ (B8 (N.getD i 0) 2 ++ IM (N.drop (i+1))):=by
 have e:N=N.take i ++ (N[i] :: N.drop (i+1)):=by rw[<- IJ hi,Fw]
 have a:N.getD i 0=N[i]:=by simp[hi]
 rw[a]
 conv=>lhs;rw[e]
 unfold IM;rw[DY,CL]
def N9(q:Int)(N:Ab)(i:Nat)(hi:i<N.length)(a:0<=N.getD i 0/\N.getD i 0<=767):Cs (DI (CB q N)) (10+2*i) 2=N.getD i 0:=by
 have e:DI (CB q N)=(jrnl ++ B8 q 4 ++ B8 (N.length:Int) 2 ++ IM (N.take i)) ++ (B8 (N.getD i 0) 2 ++ (IM (N.drop (i+1)) ++ AI (252-(CB q N).length) 0)):=by
  have b:CB q N=jrnl ++ B8 q 4 ++ B8 (N.length:Int) 2 ++ (IM (N.take i) ++ (B8 (N.getD i 0) 2 ++ IM (N.drop (i+1)))):=by
   rw[<- Ya N i hi];rfl
  unfold DI;generalize AI (252-(CB q N).length) (0:Int)=Z;rw[b];simp only[Bj]
 have c:(jrnl ++ B8 q 4 ++ B8 (N.length:Int) 2 ++ IM (N.take i)).length=10+2*i:=by
  simp only[AO,Bp,Kj,AV];have:jrnl.length=4:=rfl;omega
 rw[e,Hr _ _ _ 2 a.1 _ c];exact DV a.1 Aa
def cB(b:Ab):List d:=b.map (Y .u8)
def CQ(b:Ab):(cB b).length=b.length:=by simp[cB]
def GV(b:Ab):∀ v∈cB b,v.oneCell'=AQ:=fun v a=>by obtain⟨x,_,rfl⟩:=Ce.1 a;rfl
def cU(x:Nat × Ab):List d:=Y E x.1 :: cB x.2
def Rs(x:Nat × Ab):(cU x).length=x.2.length+1:=by simp[cU,CQ]
def Zr(x:Nat × Ab):∀ v∈cU x,v.oneCell'=AQ:=fun v a=>by
 rcases Ez.1 a with rfl|h
 . rfl
 . exact GV _ v h
def WU(b:Ab):Prop:=b.length=256/\Fv b
def Er{L:Ae}(h:∀ b∈L,WU b):∀ x∈L,(cB x).length=256:=fun x a=>by rw[CQ,(h x a).1]
def RQ{L:List (Nat × Ab)}(h:∀ x∈L,WU x.2):∀ x∈L,(cU x).length=257:=fun x a=>by rw[Rs,(h x a).1]
def zB:List d:=AI 256 (Y .u8 0)
def Fq:zB.length=256:=Bg
def pD:(Aq.info? 164).map (fun i=>(i.zero,i.size,i.bytes))=H (H (BS zB.toArray),256,256):=Ac
def ay:(Aq.info? 168).map (fun i=>(i.zero,i.size,i.bytes))=H (H (BS (Y E 0 :: zB).toArray),257,264):=Ac
def GE(w:X){b:Array BK}{rest:List BK}{o:BK}{a:Act}{Q:Exit->Act->X->Prop}(l:o.guard=J)(f:o.op=Op.alloc 164)
 (k:Cj Aq b Q rest (a.put o.dst (Ax (H ⟨w.heap.size,0,J⟩))) (w.alloc (Ay zB.toArray 164))):Cj Aq b Q (o :: rest) a w:=by
 refine CH l fun K c=>?_
 have m:=(zero_of_info (v:=BS zB.toArray) (n:=256) (t:=164) (P:=Aq) (by
  obtain⟨i,g,h,j,p⟩:=Bs pD;simp[g,h,j])).1 w
 unfold BK.wp execOp;simp only[f,Instr.alloc,newVar,newRow,Dm,m,Result.andThen_ok,d.cells];exact c _ _ k
def Py:(Aq.info? 164).map (·.size)=H 256:=Ac
def Zz:Aq.built 164 []=H zB.toArray:=Ac
def Rd(w:X){b:Array BK}{rest:List BK}{o:BK}{a:Act}{Q:Exit->Act->X->Prop}(h:o.guard=J)(f:o.op=Op.build 164 #[])
 (g:Cj Aq b Q rest (a.put o.dst (BS zB.toArray)) w):Cj Aq b Q (o :: rest) a w:=by
 refine CH h fun K c=>?_
 have d:Aq.built 164 ((#[]:Array (Nat × Operand)).map fun(i,x)=>(i,a.eval x)).toList=H zB.toArray:=by simpa using Zz
 exact wp_build 164 #[] f (by rw[d];rfl) (by rw[d];exact c _ _ g)
def FG(w:X){c:Array BK}{rest:List BK}{o:BK}{a:Act}{Q:Exit->Act->X->Prop}(k:o.guard=J)(x y:Operand)(h:o.op=Op.store 164 x y)
 (g:Nat) (t:Cn) (old b:List d) (n:a.eval x=Ax (H ⟨g,0,J⟩)) (p:a.eval y=BS b.toArray) (l:w.heap[g]? =H (Ay old.toArray t (0,0))) (m:old.length=256) (f:b.length=256) (i:∀ v∈b,v.oneCell'=AQ)
 (j:Cj Aq c Q rest (a.put o.dst undef) (w.setRow g b.toArray)):Cj Aq c Q (o :: rest) a w:=
 C8 k 164 x y h g b.toArray n p t old.toArray l (by rw[Py];simp[f]) (by simp[m,f]) (Gt i) j
def L3(w:X){c:Array BK}{rest:List BK}{o:BK}{a:Act}{Q:Exit->Act->X->Prop}(j:o.guard=J)(x:Operand)(f:o.op=Op.load 164 x)
 (g off:Nat) (b:List d) (l:a.eval x=Ax (H ⟨g,off,J⟩)) (k:w.rangeAt g off b) (i:b.length=256)
 (h:Cj Aq c Q rest (a.put o.dst (BS b.toArray)) w):Cj Aq c Q (o :: rest) a w:=
 wpList_load_mid j 164 x f g off l b _ k underlying164 rfl (by rw[Py,i]) h
def Mn{w:X}{v:d}{l:Ab}(hv:BSl w v l)(n:l.length=256):
 AH Aq 77 #[v] w fun e w'=>e=Av (BS (cB l).toArray)/\AB w.heap.size w w':=by
 obtain⟨D,A,rfl,r⟩:=hv.shape;obtain⟨M,k⟩:=nm l.length;have o:Aq.arrayLen 164=256:=Ac;have f:Aq.underlying 164=H (.array 256 5):=underlying164;have c:=wN Fq;have b:=wN n;have h:∀ v∈zB,v.oneCell'=AQ:=fun v hv=>by rw[B6 hv];rfl
 rw[<- k] at hv |-
 have m:=Fm hv (fun _ _=>rfl) (w1:=w) l.length;rw[BZ] at m;have s:Hid (M=256):=by rw[k];exact b
 clear n r k;go_enter func77,ntmps77
 go_wp2_with (first
  |with_reducible refine GE _ rfl rfl ?_
  |with_reducible refine Rd _ rfl rfl ?_
  |(refine FG _ rfl _ _ Aj _ 164 zB zB Aj Aj (Cv _ _) c.out c.out h ?_
    rw[E3])
  |(refine Dc Aj _ _ _ _ Aj 5 underlying77 Ac _ _ _ _ _ _ Aj Aj (w.heap.size+1) 0 zB 164 ?_ (cB l) 256 (by rw[CQ];exact b.out) ?_ ?_ ?_ (GV l) ?_))
 . rw[show w.heap.size+1=(w.alloc (Ay zB.toArray 164)).heap.size from Ai];exact Cv _ _
 . rw[s.out];rfl
 . intro t
   obtain⟨x,rfl,B⟩:=m t;refine⟨x,rfl,fun j v C=>?_⟩;have q:=B j v C;have g:=X.block_lt_of_cell? w _ q;rw[Dh _ _ _ (AL g Ai),Dh _ _ _ g,q]
 . rw[CQ,b.out,c.out];exact AE _
 intro w' a i;rw[EK _ _ (by rw[CQ,b.out,c.out])] at a;have p:w'.heap[w.heap.size]? =H (Ay zB.toArray 164 (0,0)):=by
  rw[i.2.2.2.2 _ Aa,@heap_alloc_old _ _ _ Ai];exact Cv _ _
 go_wp2_with (first|(refine L3 _ rfl _ Aj _ 0 (cB l) Aj (Es a.out (by rw[CX,BZ])) (by rw[CQ];exact b.out) ?_)|(refine FG _ rfl _ _ Aj _ 164 zB (cB l) Aj Aj p c.out (by rw[CQ];exact b.out) (GV l) ?_))
 have u:=CJ w' w.heap.size _ (cB l).toArray 164 _ p;refine A9 (v:=BS (cB l).toArray) ?_ rfl ⟨rfl,?_⟩
 . exact results_cell_row rfl _ _ w.heap.size 164 (cB l).toArray (0,0) _ Aj u f rfl (by rw[Py];simp[CQ,b.out])
 . have y:AB w.heap.size w ((w.alloc (Ay zB.toArray 164)).alloc (Ay zB.toArray 164)):=((AP _ _).alloc (AE _) _).alloc Ai _
   have z:AB w.heap.size _ w':=i.below Aa;exact(y.trans z).trans ((Wrote.setRow w' w.heap.size _).below (AE _))
structure DskAt (w:X) (B bp bf bv:Nat) (u:d) (F V:Ae) (U:List (Nat × Ab)) (fu:Bool) (le:Int) (dn:Bool):Prop where
 bB:B<=bp/\B<=bf/\B<=bv
 ne:bp≠bf/\bp≠bv/\bf≠bv
 hp:w.heap[bp]? =H (Ay #[I (H ⟨bf,0,J⟩) F.length F.length,I (H ⟨bv,0,J⟩) V.length V.length,u,AY fu,Y E le,AY dn] 143 (0,0))
 hf:w.heap[bf]? =H (Ay (F.flatMap cB).toArray 164 (0,0))
 hv:w.heap[bv]? =H (Ay (V.flatMap cB).toArray 164 (0,0))
 hu:w.ownsRow B 168 257 u U.length (U.flatMap cU)
 une:u.ownBlock≠H bp/\u.ownBlock≠H bf/\u.ownBlock≠H bv
 okF:∀ b∈F,WU b
 okV:∀ b∈V,WU b
 okU:∀ x∈U,x.1<V.length/\WU x.2
 len:F.length=V.length
 max:V.length<=2000
def wJ(w:X)(B:Nat)(p:d)(F V:Ae)(U:List (Nat × Ab)):Prop:=
 ∃ bp bf bv u,p=Ax (H ⟨bp,0,J⟩)/\DskAt w B bp bf bv u F V U AN 0 AN
def DskAt.below{w w':X}{B bp bf bv:Nat}{u:d}{F V:Ae}{U:List (Nat × Ab)}{fu dn:Bool}{le:Int}(h:DskAt w B bp bf bv u F V U fu le dn)(hb:AB w.heap.size w w'):DskAt w' B bp bf bv u F V U fu le dn:=by
 have a:∀ {g:Nat} {o:Obj},w.heap[g]? =H o->w'.heap[g]? =H o:=fun b=>by
  rw[hb.block _ (Au.1 b).1];exact b
 refine { h with hp:=a h.hp,hf:=a h.hf,hv:=a h.hv,hu:=⟨h.hu.1,?_⟩ };rcases h.hu.2 with h| ⟨g,c,f,i,b,j,r⟩
 . exact A4 h
 . exact A8 ⟨g,c,f,i,b,a j,r⟩
section
variable {w:X}{B bp bf bv:Nat}{u:d}{F V:Ae}{U:List (Nat × Ab)}{fu dn:Bool}{le:Int}
def DskAt.c0(h:DskAt w B bp bf bv u F V U fu le dn):w.cell? ⟨bp,0,J⟩=H (I (H ⟨bf,0,J⟩) F.length F.length):=by rw[AD _ _ _ _ _ _ h.hp];rfl
def DskAt.c1(h:DskAt w B bp bf bv u F V U fu le dn):w.cell? ⟨bp,1,J⟩=H (I (H ⟨bv,0,J⟩) V.length V.length):=by rw[AD _ _ _ _ _ _ h.hp];rfl
def DskAt.c2(h:DskAt w B bp bf bv u F V U fu le dn):w.cell? ⟨bp,2,J⟩=H u:=by rw[AD _ _ _ _ _ _ h.hp];rfl
def DskAt.c3(h:DskAt w B bp bf bv u F V U fu le dn):w.cell? ⟨bp,3,J⟩=H (AY fu):=by rw[AD _ _ _ _ _ _ h.hp];rfl
def DskAt.c4(h:DskAt w B bp bf bv u F V U fu le dn):w.cell? ⟨bp,4,J⟩=H (Y E le):=by rw[AD _ _ _ _ _ _ h.hp];rfl
def DskAt.c5(h:DskAt w B bp bf bv u F V U fu le dn):w.cell? ⟨bp,5,J⟩=H (AY dn):=by rw[AD _ _ _ _ _ _ h.hp];rfl
def DskAt.fr(h:DskAt w B bp bf bv u F V U fu le dn)(i:Nat):w.frozen? ⟨bp,i,J⟩=AN:=by simp[X.frozen?,h.hp]
def DskAt.shapeU(h:DskAt w B bp bf bv u F V U fu le dn):∃ b cap,u=I b U.length cap:=by
 rcases h.hu.2 with⟨a,d⟩| ⟨g,cap,c,a,_⟩
 . exact⟨J,0,by rw[a,d]⟩
 . exact⟨_,cap,a⟩
end
def TD{w:X}{B bp bf bv:Nat}{u:d}{F V:Ae}{U:List (Nat × Ab)}{fu dn:Bool}{le:Int}(h:DskAt w B bp bf bv u F V U fu le dn)(n:Int):
 AH Aq 118 #[Ax (H ⟨bp,0,J⟩),Y E n] w fun e w'=>e=Av (AY (decide (0<=n/\n<V.length)))/\w=w':=by
 have b:=h.c1;by_cases a:0<=n
 . go_enter func118,ntmps118
   go_wp2;go_ret;refine⟨?_,rfl⟩;simp[a]
 . go_enter func118,ntmps118
   go_wp2;go_ret;refine⟨?_,rfl⟩;rw[AM Aa];rfl
def MC{w:X}{B bp bf bv:Nat}{u:d}{F V:Ae}{U:List (Nat × Ab)}{fu dn:Bool}{le:Int}(h:DskAt w B bp bf bv u F V U fu le dn)(n:Int){v:d}{l:Ab}(hv:BSl w v l):
 AH Aq 76 #[Ax (H ⟨bp,0,J⟩),Y E n,v] w fun e w'=>e=Av (AY (decide ((0<=n/\n<V.length)/\l.length=256)))/\w=w':=by
 obtain⟨f,c,rfl,_⟩:=hv.shape;by_cases a:0<=n/\n<V.length
 . go_enter func76,ntmps76
   go_wp2_with (go_at_call 118;refine Ad (TD h n) ?_;rintro w' rfl;rw[AK a])
   go_ret;refine⟨?_,rfl⟩;by_cases b:l.length=256
   . rw[AK ⟨a,b⟩];simp[b]
   . rw[AM (fun h=>b h.2)];simp;omega
 . go_enter func76,ntmps76
   go_wp2_with (go_at_call 118;refine Ad (TD h n) ?_;rintro w' rfl;rw[AM a])
   go_ret;exact⟨by rw[AM (fun h=>a h.1)];rfl,rfl⟩
def zb:Ab:=AI 256 0
def NI:zb.length=256:=Bg
def kZ:WU zb:=⟨NI,Db 256⟩
def tX:cB zb=AI 256 (Y .u8 0):=List.map_replicate
def nQ(n:Nat):(AI n zb).flatMap cB=AI (n*256) (Y .u8 0):=by
 refine List.eq_replicate_iff.2 ⟨?_,fun v a=>?_⟩
 . rw[CR (s:=256) (fun x d=>by rw[B6 d,CQ,NI]),Bg]
 . obtain⟨b,c,a⟩:=List.mem_flatMap.1 a
   rw[B6 c,tX] at a;exact B6 a
def fm(n:Nat):madeCells zB.toArray n=(AI n (Y .u8 0)).toArray:=by
 apply Array.ext
 . simp[madeCells]
 . intro i c d
   have b:zB.toArray.size=256:=(by rw[List.size_toArray,Fq]);have a:i%zB.toArray.size<zB.toArray.size:=JE _ (by rw[b];decide);simp only[madeCells,Array.getElem_map,Array.getElem_range,List.getElem_toArray,List.getElem_replicate];rw[getElem!_pos zB.toArray _ a,List.getElem_toArray];exact B6 (Br _)
def Rb(n:Nat):Array d:=((AI n zb).flatMap cB).toArray
def Wc(W:X)(n:Nat)(h:n<=2000):(Instr.makeSlice 140 (Y E n) (Y E n)).run Aq W=.ok (I (H ⟨W.heap.size,0,J⟩) n n) (W.alloc (Ay (Rb n) 164)):=by
 obtain⟨i,b,c,f,g⟩:=Bs pD;have a:=run_make (P:=Aq) W 140 164 i (BS zB.toArray) underlying140 b c E E n n Aa Aa (by rw[g];omega) Aa;simp only[Cf,f] at a;rw[a,show(d.agg zB.toArray).cells=zB.toArray from rfl,fm,Rb,nQ]
def jM(w:X)(n:Nat)(k:n<=2000)(c f:Nat)(hb:(c=w.heap.size/\f=w.heap.size+1)\/(c=w.heap.size+1/\f=w.heap.size)):
 wJ (((w.alloc (Ay (Rb n) 164)).alloc (Ay (Rb n) 164)).alloc (Ay #[I (H ⟨c,0,J⟩) n n,I (H ⟨f,0,J⟩) n n,I J 0 0,AY AN,Y E 0,AY AN] 143)).drew
  w.heap.size (Ax (H ⟨w.heap.size+1+1,0,J⟩)) (AI n zb) (AI n zb) []:=by
 have j:(w.alloc (Ay (Rb n) 164)).heap.size=w.heap.size+1:=Ai;have i:((w.alloc (Ay (Rb n) 164)).alloc (Ay (Rb n) 164)).heap.size=w.heap.size+1+1:=Ai;have h:∀ (o:Obj) g,g=w.heap.size\/g=w.heap.size+1->(((w.alloc (Ay (Rb n) 164)).alloc (Ay (Rb n) 164)).alloc o).heap[g]? =H (Ay (Rb n) 164 (0,0)):=by
  rintro o g (rfl|rfl)
  . rw[@heap_alloc_old _ _ _ (by rw[i];omega),@heap_alloc_old _ _ _ (by rw[j];omega)];exact Cv _ _
  . rw[@heap_alloc_old _ _ _ (by rw[i];omega),<- j];exact Cv _ _
 have a:(AI n zb).length=n:=Bg;refine⟨w.heap.size+1+1,c,f,I J 0 0,rfl,?_⟩
 refine⟨Aa,Aa,?_,h _ c Aa,h _ f Aa,⟨rfl,A4 ⟨rfl,rfl⟩⟩,⟨by simp[d.ownBlock],by simp[d.ownBlock],by simp[d.ownBlock]⟩,
  fun b hb=>by rw[B6 hb];exact kZ,fun b hb=>by rw[B6 hb];exact kZ,fun x l=>by simp at l,rfl,by rw[a];exact k⟩
 rw[a,<- i];exact Cv _ _
def nr(w:X)(n:Nat)(a:n<=2000):
 AH Aq 35 #[Y E n] w fun e w'=>∃ p,e=Av p/\p≠Ax J/\wJ w' w.heap.size p (AI n zb) (AI n zb) []/\AB w.heap.size w w':=by
 have f:=fun W=>Wc W n a
 have b:Max.max (n:Int) 0=n:=Aa;have c:Min.min (n:Int) 2000=n:=Aa;have d:((n:Int)<0)=False:=Ai;go_enter func35,ntmps35;go_wp2_with fail
 go_region
 . go_wp2
   go_ret;exact⟨_,rfl,Ai,jM w n a _ _ Aa,Bd ((((AP _ _).alloc (AE _) _).alloc Ai _).alloc Ak _) 1⟩
 . go_wp2
   go_ret;exact⟨_,rfl,Ai,jM w n a _ _ Aa,Bd ((((AP _ _).alloc (AE _) _).alloc Ai _).alloc Ak _) 1⟩
def Rr:∀ (l:List d) (k off:Nat) (a:List d),off+k+l.length<=a.length->
 (l.zipIdx k).foldl (fun(cs:Array d) (x:d × Nat)=>cs.setIfInBounds (off+x.2) x.1) a.toArray=(splice a (off+k) l).toArray
 |[],k,off,a,_=>by simp[splice]
 |v :: l,k,off,a,h=>by
  have b:off+k+(l.length+1)<=a.length:=by simpa using h
  rw[List.zipIdx_cons,List.foldl_cons,show a.toArray.setIfInBounds (off+k) v=(a.set (off+k) v).toArray from Ai,
   Rr l (k+1) off _ (by rw[AR];omega)]
  have e:=list_seg_step a (off+k) v l Aa;simp only[splice,<- Dw]
  simpa [Dw] using BF List.toArray e
def Nj(b:Nat->Option (Nat × Nat))(a:List d)(i off size:Nat)(v:d)(vs:List d)(rest:List (Nat × d))(hp:b i=H (off,size))(hv:v.cells=vs.toArray)(h:vs.length=size)(g:off+size<=a.length):
 Instr.fill b a.toArray ((i,v) :: rest)=Instr.fill b (splice a off vs).toArray rest:=by
 have c:=Rr vs 0 off a Aa;rw[Nat.add_zero] at c;rw[Instr.fill,hp];have f:¬ (vs.toArray.size≠size\/off+vs.toArray.size > a.toArray.size):=Ak;simp only[hv];rw[AJ (by simpa using f)];congr 1;rw[<- c];simp
def Vv(W:X)(n:Int)(b:Ab)(hb:b.length=256):(Instr.build 168 #[(0,Y E n),(1,BS (cB b).toArray)]).run Aq W=.ok (BS (Y E n :: cB b).toArray) W:=by
 refine run_build W 168 _ _ ?_;have h:=Fq;have c:=CQ b;obtain⟨it,d,f,i,j⟩:=Bs ay;have g:Aq.underlying 168=_:=underlying168;unfold Program.built;rw[d,g];simp only[f];generalize hm:(List.mapM (m:=Option) _ _:Option (List (Nat × Nat)))=m;have a:m=H [(0,1),(1,256)]:=by rw[<- hm];kernel_rfl
 subst a;clear hm;show Instr.fill _ (Y E 0 :: zB).toArray _=_
 rw[Nj _ _ 0 0 1 (Y E n) [Y E n] _ rfl rfl rfl (by rw[BJ];omega),
  show splice (Y E 0 :: zB) 0 [Y E n]=Y E n :: zB from rfl,
  Nj _ _ 1 1 256 (BS (cB b).toArray) (cB b) _ rfl rfl (by rw[c,hb]) (by rw[BJ];omega),
  show splice (Y E n :: zB) 1 (cB b)=Y E n :: splice zB 0 (cB b) by simp only[splice];rw[Nat.add_comm 1];simp,EK _ _ (by rw[c,hb,h])]
 rfl
def UF(W:X)(cs:List d)(b:cs.length=257):(Instr.buildSlice 141 1 #[(0,BS cs.toArray)]).run Aq W=.ok (I (H ⟨W.heap.size,0,J⟩) 1 1) (W.alloc (Ay cs.toArray 168)):=by
 have j:=Fq;obtain⟨i,f,g,a,h⟩:=Bs ay;refine run_buildSlice W 141 168 1 _ cs.toArray i (BS (Y E 0 :: zB).toArray) underlying141 f g (by rw[a];decide) (by rw[a];decide) ?_;rw[a];generalize hA:Array.map _ _=A;have c:A.toList.length=257:=by rw[<- hA];simp
 obtain⟨L,rfl⟩:∃ L:List d,A=L.toArray:=⟨A.toList,Ai⟩;clear hA
 rw[show(#[((0:Nat),d.agg cs.toArray)]:Array (Nat × d)).toList=[(0,BS cs.toArray)] from rfl,Nj _ _ 0 0 257 (BS cs.toArray) cs _ rfl rfl b (by simpa using Nat.le_of_eq c.symm),
  EK _ _ (by rw[b];exact c.symm)]
 rfl
section
variable {w:X}{B bp bf bv:Nat}{u:d}{F V:Ae}{U:List (Nat × Ab)}{fu dn:Bool}{le:Int}
def DskAt.setV(h:DskAt w B bp bf bv u F V U fu le dn){W:X}(v:AB w.heap.size w W)(n:Nat)(t:n<V.length)(b:Ab)(hb:WU b):
 DskAt (W.setCells bv (n*256) (cB b)) B bp bf bv u F (V.set n b) U fu le dn/\Wrote W (W.setCells bv (n*256) (cB b)) bv:=by
 have c:=h.below v;have m:=CQ b;have q:=CR (Er h.okV);have e:=Fp (vs:=cB b) c.hv (o:=n*256) (by rw[m,hb.1,q];omega) (GV b);rw[IN (Er h.okV) n t b (by rw[m,hb.1])] at e;rw[e];have d:=Wrote.setRow W bv ((V.set n b).flatMap cB).toArray;have a:∀ {g:Nat} {o:Obj},g≠bv->W.heap[g]? =H o->(W.setRow bv ((V.set n b).flatMap cB).toArray).heap[g]? =H o:=fun k l=>by
  rw[d.2.2.2.2 _ k];exact l
 refine⟨⟨h.bB,h.ne,by rw[AR];exact a h.ne.2.1 c.hp,a h.ne.2.2 c.hf,CJ _ _ _ _ _ _ c.hv,⟨h.hu.1,?_⟩,h.une,h.okF,?_,fun x f=>by rw[AR];exact h.okU x f,by rw[AR];exact h.len,by rw[AR];exact h.max⟩,d⟩
 . rcases c.hu.2 with s| ⟨g,i,j,p,k,l,r⟩
   . exact A4 s
   . exact A8 ⟨g,i,j,p,k,a (fun e=>h.une.2.2 (by rw[p,<- e];rfl)) l,r⟩
 . intro x f
   rcases Ea f with f|rfl
   . exact h.okV x f
   . exact hb
end
end
section
open Go.RowKit
def DskAt.pushU{w:X}{B c v z:Nat}{u:d}{F V:Ae}{U:List (Nat × Ab)}{fu dn:Bool}{le:Int}(h:DskAt w B c v z u F V U fu le dn){W w3:X}(D:AB w.heap.size w W)(G:B<=w.heap.size)
 (a:W.grownBy w3 u.ownBlock) (g cap:Nat) (x:Nat × Ab) (N:x.1<V.length/\WU x.2) (f:w3.ownsRow B 168 257 (I (H ⟨g,0,J⟩) (U.length+1) cap) (U.length+1) (U.flatMap cU ++ cU x)) (s:u.ownBlock=H g\/g=W.heap.size):
 DskAt (w3.setCell ⟨c,2,J⟩ (I (H ⟨g,0,J⟩) (U.length+1) cap)) B c v z (I (H ⟨g,0,J⟩) (U.length+1) cap) F V (U ++ [x]) fu le dn/\AB B w (w3.setCell ⟨c,2,J⟩ (I (H ⟨g,0,J⟩) (U.length+1) cap)):=by
 have m:=h.below D;have Q:=(Au.1 m.hp).1;have R:=(Au.1 m.hf).1;have S:=(Au.1 m.hv).1;have j:=h.une;have i:∀ {k:Nat} {o:Obj},H k≠u.ownBlock->W.heap[k]? =H o->w3.heap[k]? =H o:=fun n t=>by
  rw[a.block _ (Au.1 t).1 n];exact t
 have b:g≠c/\g≠v/\g≠z:=by
  rcases s with s|s
  . rw[s] at j
    exact⟨fun e=>j.1 (by rw[e]),fun e=>j.2.1 (by rw[e]),fun e=>j.2.2 (by rw[e])⟩
  . omega
 have p:=h.ne;have l:∀ {k:Nat},k≠c->(w3.setCell ⟨c,2,J⟩ (I (H ⟨g,0,J⟩) (U.length+1) cap)).heap[k]? =w3.heap[k]? :=fun n=>AZ _ _ _ _ n
 have O:(U ++ [x]).flatMap cU=U.flatMap cU ++ cU x:=Ai;have C:(U ++ [x]).length=U.length+1:=Ai;refine⟨⟨h.bB,h.ne,?_,?_,?_,?_,?_,h.okF,h.okV,?_,h.len,h.max⟩,?_⟩
 . have:=Bk w3 c 2 _ _ (I (H ⟨g,0,J⟩) (U.length+1) cap) (i (C0 j.1) m.hp)
   simpa using this
 . rw[l (C0 p.1)];exact i (C0 j.2.1) m.hf
 . rw[l (C0 p.2.1)];exact i (C0 j.2.2) m.hv
 . rw[O,C]
   refine⟨f.1,?_⟩;rcases f.2 with⟨L,_⟩| ⟨P,E,A,K,M,t,r⟩
   . simp at L
   . simp only[I.injEq,Option.some.injEq,Addr.mk.injEq,and_true,true_and] at K
     obtain⟨rfl,rfl⟩:=K;exact A8 ⟨g,cap,A,rfl,M,by rw[l b.1];exact t,r⟩
 . refine⟨fun e=>b.1 (by simpa [d.ownBlock] using e),fun e=>b.2.1 (by simpa [d.ownBlock] using e),fun e=>b.2.2 (by simpa [d.ownBlock] using e)⟩
 . intro y q
   rcases BU.1 q with q|q
   . exact h.okU y q
   . obtain rfl:=BN.1 q;exact N
 . refine AB.setCell (((D.mono G)).grown a (AU G D.size) fun k n=>(h.hu.lt k n).1) (by exact h.bB.1) _
attribute [-go_sem] Instr.build Instr.buildSlice loadCellsFrom
end
section
open Go.RowKit
def QY(kp:Nat->Bool)(U:List (Nat × Ab))(F:Ae):Nat->Ae
 |0=>F
 |k+1=>if kp k then (QY kp U F k).set (U.getD k (0,[])).1 (U.getD k (0,[])).2 else QY kp U F k
def Xl(U:List (Nat × Ab))(a V:Ae):Nat->Ae
 |0=>V
 |k+1=>(Xl U a V k).set (U.getD k (0,[])).1 (a.getD (U.getD k (0,[])).1 [])
def PI(kp:Nat->Bool)(U:List (Nat × Ab))(F:Ae):∀ k,(QY kp U F k).length=F.length
 |0=>rfl
 |k+1=>by
  have:=PI kp U F k;unfold QY;split
  . rw[AR,this]
  . exact this
def Ht(U:List (Nat × Ab))(a V:Ae):∀ k,(Xl U a V k).length=V.length
 |0=>rfl
 |k+1=>by
  have:=Ht U a V k;unfold Xl;rw[AR,this]
structure Frm (w W:X) (g1 g2:Nat):Prop where
 os:W.os=w.os
 tape:W.tape=w.tape
 output:W.output=w.output
 size:w.heap.size<=W.heap.size
 block:∀ k,k<w.heap.size->k≠g1->k≠g2->W.heap[k]? =w.heap[k]?
def Frm.refl(w:X)(g1 g2:Nat):Frm w w g1 g2:=⟨rfl,rfl,rfl,AE _,fun _ _ _ _=>rfl⟩
def Frm.below{w W:X}{g1 g2 B:Nat}(h:Frm w W g1 g2)(a:B<=g1)(b:B<=g2)(c:B<=w.heap.size):AB B w W:=
 ⟨h.os,h.tape,h.output,h.size,fun k d=>h.block k Aa Aa Aa⟩
def Frm.trans{a b c:X}{g1 g2:Nat}(h:Frm a b g1 g2)(k:Frm b c g1 g2):Frm a c g1 g2:=
 ⟨k.os.trans h.os,k.tape.trans h.tape,k.output.trans h.output,AU h.size k.size,fun i g d f=>(k.block i (AL g h.size) d f).trans (h.block i g d f)⟩
def Frm.of_below{w W:X}{g1 g2:Nat}(h:AB w.heap.size w W):Frm w W g1 g2:=⟨h.os,h.tape,h.output,h.size,fun k a _ _=>h.block k a⟩
def Frm.of_wrote{w W:X}{g1 g2:Nat}(h:Wrote w W g1):Frm w W g1 g2:=⟨h.1,h.2.1,h.2.2.1,Nat.le_of_eq h.2.2.2.1.symm,fun k _ a _=>h.2.2.2.2 k a⟩
def Frm.of_wrote2{w W:X}{g1 g2:Nat}(h:Wrote w W g2):Frm w W g1 g2:=⟨h.1,h.2.1,h.2.2.1,Nat.le_of_eq h.2.2.2.1.symm,fun k _ _ a=>h.2.2.2.2 k a⟩
structure Fr3 (w W:X) (g1 g2 g3:Nat):Prop where
 os:W.os=w.os
 tape:W.tape=w.tape
 output:W.output=w.output
 size:w.heap.size<=W.heap.size
 block:∀ k,k<w.heap.size->k≠g1->k≠g2->k≠g3->W.heap[k]? =w.heap[k]?
def Fr3.set{w W:X}{g2 a:Nat}(h:Frm w W g2 a)(g1 i:Nat)(x:d):Fr3 w (W.setCell ⟨g1,i,J⟩ x) g1 g2 a:=
 ⟨h.os,h.tape,h.output,by simp[X.setCell];exact h.size,fun k g b c f=>by rw[AZ _ _ _ _ b];exact h.block k g c f⟩
section
variable {w:X}{B bp bf bv:Nat}{u:d}{F V:Ae}{U:List (Nat × Ab)}{fu dn:Bool}{le:Int}
def DskAt.setF(h:DskAt w B bp bf bv u F V U fu le dn){W:X}(v:AB w.heap.size w W)(n:Nat)(t:n<F.length)(b:Ab)(hb:WU b):
 DskAt (W.setCells bf (n*256) (cB b)) B bp bf bv u (F.set n b) V U fu le dn/\Wrote W (W.setCells bf (n*256) (cB b)) bf:=by
 have c:=h.below v;have m:=CQ b;have q:=CR (Er h.okF);have e:=Fp (vs:=cB b) c.hf (o:=n*256) (by rw[m,hb.1,q];omega) (GV b);rw[IN (Er h.okF) n t b (by rw[m,hb.1])] at e;rw[e];have d:=Wrote.setRow W bf ((F.set n b).flatMap cB).toArray;have a:∀ {g:Nat} {o:Obj},g≠bf->W.heap[g]? =H o->(W.setRow bf ((F.set n b).flatMap cB).toArray).heap[g]? =H o:=fun j k=>by
  rw[d.2.2.2.2 _ j];exact k
 refine⟨⟨h.bB,h.ne,by rw[AR];exact a h.ne.1 c.hp,CJ _ _ _ _ _ _ c.hf,a (C0 h.ne.2.2) c.hv,⟨h.hu.1,?_⟩,h.une,?_,h.okV,h.okU,by rw[AR];exact h.len,h.max⟩,d⟩
 . rcases c.hu.2 with s| ⟨g,f,i,p,j,k,r⟩
   . exact A4 s
   . exact A8 ⟨g,f,i,p,j,a (fun e=>h.une.2.1 (by rw[p,<- e];rfl)) k,r⟩
 . intro x l
   rcases Ea l with l|rfl
   . exact h.okF x l
   . exact hb
def DskAt.noU(h:DskAt w B bp bf bv u F V U fu le dn):DskAt (w.setCell ⟨bp,2,J⟩ (I J 0 0)) B bp bf bv (I J 0 0) F V [] fu le dn:=by
 have a:∀ {k:Nat},k≠bp->(w.setCell ⟨bp,2,J⟩ (I J 0 0)).heap[k]? =w.heap[k]? :=fun b=>AZ _ _ _ _ b
 refine⟨h.bB,h.ne,?_,?_,?_,⟨rfl,A4 ⟨rfl,rfl⟩⟩,⟨by simp[d.ownBlock],by simp[d.ownBlock],by simp[d.ownBlock]⟩,h.okF,h.okV,fun x c=>by simp at c,h.len,h.max⟩
 . have:=Bk w bp 2 _ _ (I J 0 0) h.hp
   simpa using this
 . rw[a (C0 h.ne.1)];exact h.hf
 . rw[a (C0 h.ne.2.1)];exact h.hv
def DskAt.rangeU(h:DskAt w B bp bf bv u F V U fu le dn)(i:Nat)(hi:i<U.length):∃ g cap,u=I (H ⟨g,0,J⟩) U.length cap/\g<w.heap.size/\w.rangeAt g (i*257) (cU U[i]):=by
 have m:=CR (RQ fun x b=>(h.okU x b).2);rcases h.hu.2 with⟨_,n⟩| ⟨g,cap,a,l,r,c,o,p,q,d⟩
 . omega
 . have j:=Rs U[i]
   have f:=(h.okU U[i] (Br _)).2.1;have k:=Gi (RQ fun x b=>(h.okU x b).2) i hi;refine⟨g,cap,l,(Au.1 c).1,Es (cur:=a.toList) (by simpa using c) ?_⟩;rw[j,f,<- d,List.drop_take,List.take_take] at*
   rw[<- k];congr 1;have:(i+1)*257<=U.length*257:=Nat.mul_le_mul_right _ hi;rw[Nat.succ_mul] at this;omega
end
def qd:(Aq.info? 168).map (·.size)=H 257:=Ac
def IB(w:X){b:Array BK}{rest:List BK}{o:BK}{a:Act}{Q:Exit->Act->X->Prop}(l:o.guard=J)(f:o.op=Op.alloc 168)
 (k:Cj Aq b Q rest (a.put o.dst (Ax (H ⟨w.heap.size,0,J⟩))) (w.alloc (Ay (Y E 0 :: zB).toArray 168))):Cj Aq b Q (o :: rest) a w:=by
 refine CH l fun K c=>?_
 have m:=(zero_of_info (v:=BS (Y E 0 :: zB).toArray) (n:=257) (t:=168) (P:=Aq) (by
  obtain⟨i,g,h,j,p⟩:=Bs ay;simp[g,h,j])).1 w
 unfold BK.wp execOp;simp only[f,Instr.alloc,newVar,newRow,Dm,m,Result.andThen_ok,d.cells];exact c _ _ k
def Jm(w:X){c:Array BK}{rest:List BK}{o:BK}{a:Act}{Q:Exit->Act->X->Prop}(j:o.guard=J)(x:Operand)(f:o.op=Op.load 168 x)
 (g off:Nat) (b:List d) (l:a.eval x=Ax (H ⟨g,off,J⟩)) (k:w.rangeAt g off b) (i:b.length=257)
 (h:Cj Aq c Q rest (a.put o.dst (BS b.toArray)) w):Cj Aq c Q (o :: rest) a w:=
 wpList_load_mid j 168 x f g off l b _ k underlying168 rfl (by rw[qd,i]) h
def IH(w:X){c:Array BK}{rest:List BK}{o:BK}{a:Act}{Q:Exit->Act->X->Prop}(k:o.guard=J)(x y:Operand)(h:o.op=Op.store 168 x y)
 (g:Nat) (t:Cn) (old b:List d) (n:a.eval x=Ax (H ⟨g,0,J⟩)) (p:a.eval y=BS b.toArray) (l:w.heap[g]? =H (Ay old.toArray t (0,0))) (m:old.length=257) (f:b.length=257) (i:∀ v∈b,v.oneCell'=AQ)
 (j:Cj Aq c Q rest (a.put o.dst undef) (w.setRow g b.toArray)):Cj Aq c Q (o :: rest) a w:=
 C8 k 168 x y h g b.toArray n p t old.toArray l (by rw[qd];simp[f]) (by simp[m,f]) (Gt i) j
def tQ(w:X)(B b a c:Nat)(F V:Ae)(U:List (Nat × Ab))(fu:Bool)(le:Int)(dn:Bool)(kp:Nat->Bool)(e:Ending)(w':X):Prop:=
 e=Av (AT #[])/\DskAt w' B b a c (I J 0 0) (QY kp U F U.length) (Xl U (QY kp U F U.length) V U.length) [] fu le dn/\AB B w w'/\Fr3 w w' b a c
def eX{w:X}{B s f n:Nat}{u:d}{F V:Ae}{U:List (Nat × Ab)}{fu dn:Bool}{le:Int}(h:DskAt w B s f n u F V U fu le dn)(rZ:B<=w.heap.size)(d3:U.length<=1000000)(kp:Nat->Bool)
 (hk:∀ W,Frm w W f n->∀ i,i<U.length->AH Aq 166 #[Y E i] W fun e w'=>e=Av (AY (kp i))/\∃ m,w'=W.drewN m):
 AH Aq 165 #[Ax (H ⟨s,0,J⟩),.func (.func 166) #[] #[]] w (tQ w B s f n F V U fu le dn kp):=by
 obtain⟨ao,M,rfl⟩:=h.shapeU;have c2:=h.c2;have HU:Hid (∀ x∈U,x.1<V.length/\WU x.2):=h.okU;have b2:Hid (F.length=V.length):=h.len;have HZ:=wN Fq;have c6:=wN rZ;have a6:Hid (B<=s/\B<=f/\B<=n):=h.bB;have hdr:∀ (W:X) (m:Nat),AB W.heap.size W (W.drewN m):=fun W m=>Bd (AP _ _) m
 clear rZ;go_enter func165,ntmps165;go_wp2_with fail
 have a9:Hid (DskAt w B s f n (I ao U.length M) F V U fu le dn):=h;clear h c2
 go_loopw [13] (fun i wr=>∃ k:Nat,k<=U.length/\i=Y E k/\Hid (DskAt wr B s f n (I ao U.length M) (QY kp U F k) V U fu le dn)/\Hid (Frm w wr f n))
  (fun i _=>U.length-(intOf i).toNat)
 case atStart=>exact⟨0,Aa,rfl,a9,Frm.refl _ _ _⟩
 case round=>
  obtain⟨k,b8,rfl,q,HF⟩:=hrel;by_cases C:k<U.length
  . have WN:(k:Int)<(U.length:Int):=by omega
    obtain⟨g,P,hu,MW,hr⟩:=q.out.rangeU k C;obtain⟨rfl,rfl⟩:ao=H ⟨g,0,J⟩/\P=M:=⟨(Be hu).1,(Be hu).2.2.symm⟩;have hx:=HU.out U[k] (Br _);have Dx:U.getD k (0,[])=U[k]:=(by rw[Az,AX C];rfl);obtain⟨⟨a,c⟩,gE⟩:∃ x,x=U[k]:=⟨_,rfl⟩;rw[<- gE] at hx hr Dx;have HX:Hid (a<V.length/\WU c):=hx;have HR:Hid (wr.rangeAt g (k*257) (Y E a :: cB c)):=hr;have HG:=wN Dx;have HL:Hid ((cB c).length=256):=(by show _=_;rw[CQ,hx.2.1]);have G:Hid ((Y E a :: cB c).length=257):=(by show _=_;rw[BJ,HL.out]);have a2:∀ v∈(Y E a :: cB c),v.oneCell'=AQ:=Zr (a,c);obtain⟨r,WO⟩:=nm wr.heap.size;have a3:AB wr.heap.size wr (wr.alloc (Ay (Y E a :: cB c).toArray 168)):=(AP _ _).alloc (AE _) _;have c5:(wr.alloc (Ay (Y E a :: cB c).toArray 168)).heap[r]? =H (Ay (Y E a :: cB c).toArray 168 (0,0)):=(by rw[WO];exact Cv _ _);have HK:Hid (∀ m,Frm w ((wr.alloc (Ay (Y E a :: cB c).toArray 168)).drewN m) f n):=fun m=>(HF.out.trans (Frm.of_below a3)).trans (Frm.of_below (hdr _ m))
    have b1:Hid (Frm w (wr.alloc (Ay (Y E a :: cB c).toArray 168)) f n):=HF.out.trans (Frm.of_below a3);have c9:=wN c5;have a1:=wN a3;have L:=wN WO;clear hu hr hx Dx gE c5 a3 HU WO;cases b9:kp k
    . have O:=wN b9
      go_wp2_with (first
       |(refine Jm _ rfl _ Aj g (k*257) (Y E a :: cB c) Aj HR.out G.out ?_)
       |with_reducible refine IB _ rfl rfl ?_
       |(refine IH _ rfl _ _ Aj _ 168 (Y E 0 :: zB) (Y E a :: cB c) Aj Aj (Cv _ _) (by rw[BJ,HZ.out]) G.out a2 ?_
         rw[E3])|(go_at_call 166;refine Ad (hk _ b1.out k C) ?_;rintro w2 ⟨m,rfl⟩;rw[O.out]))
      go_roundw
      case rel=>exact⟨k+1,Aa,by go_num,(by
       show DskAt _ B s f n _ (QY kp U F (k+1)) V U fu le dn
       rw[QY,AJ (by rw[O.out];decide)];exact q.out.below (a1.out.trans ((hdr _ m).mono a1.out.size))),HK.out m⟩
      case measure=>simp[intOf];omega
    . have O:=wN b9
      go_wp2_with (first
       |(refine Jm _ rfl _ Aj g (k*257) (Y E a :: cB c) Aj HR.out G.out ?_)
       |with_reducible refine IB _ rfl rfl ?_
       |(refine IH _ rfl _ _ Aj _ 168 (Y E 0 :: zB) (Y E a :: cB c) Aj Aj (Cv _ _) (by rw[BJ,HZ.out]) G.out a2 ?_
         rw[E3])|(go_at_call 166;refine Ad (hk _ b1.out k C) ?_;rintro w2 ⟨m,rfl⟩;rw[O.out]))
      obtain⟨l,y⟩:=nm ((wr.alloc (Ay (Y E a :: cB c).toArray 168)).drewN m);have A:AB wr.heap.size wr l:=(by rw[y];exact a1.out.trans ((hdr _ m).mono a1.out.size));have S:Frm w l f n:=(by rw[y];exact HK.out m);have N:l.heap[r]? =H (Ay (Y E a :: cB c).toArray 168 (0,0)):=(by rw[y];exact c9.out);rw[<- y,<- L.out];clear y;have t:=q.out.below A;have Ui:s<r/\f<r/\n<r:=by
       have e1:=(Au.1 q.out.hp).1;have e2:=(Au.1 q.out.hf).1;have e3:=(Au.1 q.out.hv).1;have:=L.out;omega
      have a0:=q.out.ne;have c4:(QY kp U F k).length=F.length:=PI _ _ _ _;have s_:a<(QY kp U F k).length:=by rw[c4,b2.out];exact HX.out.1
      obtain⟨K,ta⟩:=nm ((QY kp U F k).length);have c0:=t.c0;rw[<- ta] at c0 s_;have b4:(a:Int)<(K:Int):=Aa;have r0:l.cell? ⟨r,0,J⟩=H (Y E a):=(by rw[AD _ _ _ _ _ _ N];rfl);have rL:l.rangeAt r 1 (cB c):=Es N Ai;have tF:l.there f (a*256) (cB c).length:=Ft t.hf (by rw[HL.out,CR (Er t.okF)];omega);have lx:=GV c;have rV:=underlying164;have r9:(Aq.info? 164).map (·.size)=H (cB c).length:=(by rw[Py,HL.out]);have c3:=HL.out;obtain⟨Q,gm⟩:=q.out.setF (W:=l.drew) (A.drew) a (by rw[<- ta];exact s_) c HX.out.2;have T:=(S.trans (Frm.of_below (hdr l 1))).trans (Frm.of_wrote (g2:=n) gm);have a4:=wN Q;have a5:=wN T;have d2:=wN gm;have z:l.drew.cell? ⟨s,0,J⟩=H (I (H ⟨f,0,J⟩) K K)/\l.drew.cell? ⟨r,0,J⟩=H (Y E a)/\l.drew.rangeAt r 1 (cB c)/\l.drew.there f (a*256) (cB c).length:=⟨c0,r0,rL,tF⟩;have R:(l.drew.setCells f (a*256) (cB c)).cell? ⟨s,0,J⟩=H (I (H ⟨f,0,J⟩) K K)/\(l.drew.setCells f (a*256) (cB c)).cell? ⟨r,0,J⟩=H (Y E a)/\(l.drew.setCells f (a*256) (cB c)).rangeAt r 1 (cB c)/\(l.drew.setCells f (a*256) (cB c)).there f (a*256) (cB c).length:=
       ⟨by rw[CM _ _ _ _ _ (fun e=>absurd e a0.1)];exact c0,by rw[CM _ _ _ _ _ (fun e=>by have e:r=f:=e;omega)];exact r0,GX z.2.2.1 _ _ _ (A4 Aa),X.there_setCells z.2.2.2 _ _ _⟩
      clear t A S N c0 r0 rL tF Q gm T c4 ta
      go_region_held (fun W=>W.cell? ⟨s,0,J⟩=H (I (H ⟨f,0,J⟩) K K)/\W.cell? ⟨r,0,J⟩=H (Y E a)/\W.rangeAt r 1 (cB c)/\W.there f (a*256) (cB c).length) (first|exact z|exact R) (fail)
      clear z R;go_wp2_with fail
      go_roundw
      case rel=>exact⟨k+1,Aa,by go_num,(by
       show DskAt _ B s f n _ (QY kp U F (k+1)) V U fu le dn
       rw[QY,AG O.out,HG.out];exact a4.out),a5.out⟩
      case measure=>simp[intOf];omega
  . obtain rfl:k=U.length:=by omega
    have b7:¬ (U.length:Int)<(U.length:Int):=Aa;have c2:=q.out.c2;go_wp2_with fail
    obtain⟨D,uh⟩:=nm (QY kp U F U.length);have c7:=wN uh;have b0:Hid (DskAt wr B s f n (I ao U.length M) D V U fu le dn):=(by rw[uh];exact q);clear q a9 c2 uh hk b7 b8 C
    go_loopw [36] (fun i wq=>∃ k:Nat,k<=U.length/\i=Y E k/\Hid (DskAt wq B s f n (I ao U.length M) D (Xl U D V k) U fu le dn)/\Hid (Frm w wq f n))
     (fun i _=>U.length-(intOf i).toNat)
    case atStart=>exact⟨0,Aa,rfl,b0,HF⟩
    case round=>
     clear b0 HF;obtain⟨k,b8,rfl,q,HF⟩:=hrel;by_cases C:k<U.length
     . have WN:(k:Int)<(U.length:Int):=by omega
       obtain⟨g,P,hu,MW,hr⟩:=q.out.rangeU k C;obtain⟨rfl,rfl⟩:ao=H ⟨g,0,J⟩/\P=M:=⟨(Be hu).1,(Be hu).2.2.symm⟩;have hx:=HU.out U[k] (Br _);have Dx:U.getD k (0,[])=U[k]:=(by rw[Az,AX C];rfl);obtain⟨⟨a,c⟩,gE⟩:∃ x,x=U[k]:=⟨_,rfl⟩;rw[<- gE] at hx hr Dx;have lz:D.length=V.length:=(by have:=q.out.len;rw[Ht] at this;exact this);have s_:a<D.length:=by rw[lz];exact hx.1
       have hb:WU D[a]:=q.out.okF _ (Br _);have a8:D.getD a []=D[a]:=by rw[Az,AX s_];rfl
       have Z:=Es q.out.hf (o:=a*256) (vs:=cB D[a]) (by rw[CQ,hb.1];exact Gi (Er q.out.okF) a s_);obtain⟨b,b6⟩:=nm (D[a]);rw[<- b6] at hb a8 Z;have HX:Hid (a<V.length/\WU c):=hx;have HR:Hid (wr.rangeAt g (k*257) (Y E a :: cB c)):=hr;have HG:=wN Dx;have HB:=wN hb;have c8:=wN a8;have b3:=wN Z;have HL:Hid ((cB b).length=256):=(by show _=_;rw[CQ,hb.1]);have G:Hid ((Y E a :: cB c).length=257):=(by show _=_;rw[BJ,CQ,hx.2.1]);have a2:∀ v∈(Y E a :: cB c),v.oneCell'=AQ:=Zr (a,c);obtain⟨r,WO⟩:=nm wr.heap.size;obtain⟨l,y⟩:=nm (wr.alloc (Ay (Y E a :: cB c).toArray 168));have A:AB wr.heap.size wr l:=(by rw[y];exact(AP _ _).alloc (AE _) _);have N:l.heap[r]? =H (Ay (Y E a :: cB c).toArray 168 (0,0)):=(by rw[y,WO];exact Cv _ _);have S:=HF.out.trans (Frm.of_below A);have d0:=wN y;have L:=wN WO;clear hu hr hx Dx gE WO y hb a8 Z b6
       go_wp2_with (first
        |(refine Jm _ rfl _ Aj g (k*257) (Y E a :: cB c) Aj HR.out G.out ?_)
        |with_reducible refine IB _ rfl rfl ?_
        |(refine IH _ rfl _ _ Aj _ 168 (Y E 0 :: zB) (Y E a :: cB c) Aj Aj (Cv _ _) (by rw[BJ,HZ.out]) G.out a2 ?_
          rw[E3]))
       rw[<- d0.out,<- L.out];have t:=q.out.below A;have Ui:s<r/\f<r/\n<r:=by
        have e1:=(Au.1 q.out.hp).1;have e2:=(Au.1 q.out.hf).1;have e3:=(Au.1 q.out.hv).1;have:=L.out;omega
       have a0:=q.out.ne;have b5:a<(Xl U D V k).length:=by rw[Ht];exact HX.out.1
       obtain⟨K,ta⟩:=nm D.length;obtain⟨NV,a7⟩:=nm ((Xl U D V k).length);have c0:=t.c0;have c1:=t.c1;rw[<- ta] at c0 s_;rw[<- a7] at c1 b5;have b4:(a:Int)<(K:Int):=Aa;have d1:(a:Int)<(NV:Int):=Aa;have r0:l.cell? ⟨r,0,J⟩=H (Y E a):=(by rw[AD _ _ _ _ _ _ N];rfl);have rF:l.rangeAt f (a*256) (cB b):=by
        have:=b3.out;intro j v hj;rw[A.cell (p:=⟨f,a*256+j,J⟩) (by have:=L.out;show f<_;omega)];exact this j v hj
       have tV:l.there n (a*256) (cB b).length:=Ft t.hv (by rw[HL.out,CR (Er t.okV)];omega);have lx:=GV b;have rV:=underlying164;have r9:(Aq.info? 164).map (·.size)=H (cB b).length:=(by rw[Py,HL.out]);have c3:=HL.out;obtain⟨Q,gm⟩:=q.out.setV (W:=l.drew) (A.drew) a (by rw[<- a7];exact b5) b HB.out;have T:=(S.trans (Frm.of_below (hdr l 1))).trans (Frm.of_wrote2 (g1:=f) gm);have a4:=wN Q;have a5:=wN T;have z:l.drew.cell? ⟨s,0,J⟩=H (I (H ⟨f,0,J⟩) K K)/\l.drew.cell? ⟨s,1,J⟩=H (I (H ⟨n,0,J⟩) NV NV)/\l.drew.cell? ⟨r,0,J⟩=H (Y E a)/\l.drew.rangeAt f (a*256) (cB b)/\l.drew.there n (a*256) (cB b).length:=⟨c0,c1,r0,rF,tV⟩;have R:(l.drew.setCells n (a*256) (cB b)).cell? ⟨s,0,J⟩=H (I (H ⟨f,0,J⟩) K K)/\(l.drew.setCells n (a*256) (cB b)).cell? ⟨s,1,J⟩=H (I (H ⟨n,0,J⟩) NV NV)/\(l.drew.setCells n (a*256) (cB b)).cell? ⟨r,0,J⟩=H (Y E a)/\(l.drew.setCells n (a*256) (cB b)).rangeAt f (a*256) (cB b)/\(l.drew.setCells n (a*256) (cB b)).there n (a*256) (cB b).length:=
        ⟨by rw[CM _ _ _ _ _ (fun e=>absurd e a0.2.1)];exact c0,by rw[CM _ _ _ _ _ (fun e=>absurd e a0.2.1)];exact c1,by rw[CM _ _ _ _ _ (fun e=>by have e:r=n:=e;omega)];exact r0,GX z.2.2.2.1 _ _ _ (A4 a0.2.2),X.there_setCells z.2.2.2.2 _ _ _⟩
       clear t A S N c0 c1 r0 rF tV Q gm T ta a7 lz HU
       go_region_held (fun W=>W.cell? ⟨s,0,J⟩=H (I (H ⟨f,0,J⟩) K K)/\W.cell? ⟨s,1,J⟩=H (I (H ⟨n,0,J⟩) NV NV)/\W.cell? ⟨r,0,J⟩=H (Y E a)/\W.rangeAt f (a*256) (cB b)/\W.there n (a*256) (cB b).length) (first|exact z|exact R) (fail)
       clear z R;go_wp2_with fail
       go_roundw
       case rel=>exact⟨k+1,Aa,by go_num,(by
        show DskAt _ B s f n _ D (Xl U D V (k+1)) U fu le dn
        rw[Xl,HG.out,c8.out];exact a4.out),a5.out⟩
       case measure=>simp[intOf];omega
     . obtain rfl:k=U.length:=by omega
       have b7:¬ (U.length:Int)<(U.length:Int):=Aa;have c2:=q.out.c2;have f2:=q.out.fr 2;go_wp2_with fail
       go_end0
       refine⟨rfl,?_,(HF.out.below a6.out.2.1 a6.out.2.2 c6.out).trans ((AP _ _).setCell a6.out.1 _),Fr3.set HF.out s 2 _⟩;rw[<- c7.out];exact q.out.noU
def bH(k:List Bool)(i:Nat):Bool:=if k.length=0 then AN else k.getD (i%k.length) AN
def WH(w:X)(i:Nat):AH Aq 166 #[Y E i] w fun e w'=>e=Av (AY AQ)/\∃ m,w'=w.drewN m:=by
 go_enter func166,ntmps166;go_wp2;go_ret;exact⟨rfl,0,rfl⟩
section
variable {w:X}{B bp bf bv:Nat}{u:d}{F V:Ae}{U:List (Nat × Ab)}{fu dn:Bool}{le:Int}
def DskAt.flags(h:DskAt w B bp bf bv u F V U fu le dn)(i:Nat)(x:d)(c:Bool)(f:Int)(b:Bool)
 (s:(#[I (H ⟨bf,0,J⟩) F.length F.length,I (H ⟨bv,0,J⟩) V.length V.length,u,AY fu,Y E le,AY dn]:Array d).setIfInBounds i x=#[I (H ⟨bf,0,J⟩) F.length F.length,I (H ⟨bv,0,J⟩) V.length V.length,u,AY c,Y E f,AY b]):
 DskAt (w.setCell ⟨bp,i,J⟩ x) B bp bf bv u F V U c f b/\AB B w (w.setCell ⟨bp,i,J⟩ x):=by
 have a:∀ {k:Nat},k≠bp->(w.setCell ⟨bp,i,J⟩ x).heap[k]? =w.heap[k]? :=fun q=>AZ _ _ _ _ q
 refine⟨⟨h.bB,h.ne,?_,?_,?_,⟨h.hu.1,?_⟩,h.une,h.okF,h.okV,h.okU,h.len,h.max⟩,(AP _ _).setCell h.bB.1 _⟩
 . have:=Bk w bp i _ _ x h.hp
   rw[s] at this;exact this
 . rw[a (C0 h.ne.1)];exact h.hf
 . rw[a (C0 h.ne.2.1)];exact h.hv
 . rcases h.hu.2 with n| ⟨g,j,l,m,o,p,r⟩
   . exact A4 n
   . exact A8 ⟨g,j,l,m,o,by rw[a (fun e=>h.une.1 (by rw[m,<- e];rfl))];exact p,r⟩
end
end
end Go.Proofs.YtfpdajplfmakhaaGreatDoor
