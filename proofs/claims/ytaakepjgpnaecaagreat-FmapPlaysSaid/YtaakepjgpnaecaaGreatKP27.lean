/- What the law rests on: part 27. -/
import Derived.Test.YtaakepjgpnaecaaGreatKP26
set_option linter.unusedVariables false
namespace Go.Proofs.YtaakepjgpnaecaaGreat
set_option maxRecDepth 100000
open Go.RowKit BM
section
variable {w0 w:World}{P:Nat->Prop}{d p:Value}{X:XSt}{S:List Int}{N:List (List Int)}{O:List (Int × Int)}{kk:Nat}{F:Nat->List Int}{bf bm:Nat}{bn bp:Nat->Nat}{Ks:Nat->List Int}{lim:Int}{no io vo:Int}{n i:Nat}
set_option maxHeartbeats 2000000 in
theorem do14_set8 (h:Ps w0 w P d p X S N O kk F bf bm bn bp Ks lim) (h1:2<=n) (h2:n<=5) (h4:i<=137) (h5:1<=vo) (h6:vo<768) (hin:(i:Int) ∉ Ks n):
 Calls Tryz.prog 11 #[.pointer (some ⟨bm,0,none⟩),.pointer (some ⟨bf,0,none⟩),.agg #[.int .i64 3,.int .i64 n,.int .i64 i,.int .i64 vo]] w fun e w'=>e=.returned (.bool true)/\PsE w0 d p S kk bf bm lim w':=by
 obtain ⟨hf,hB⟩:=h.boxed 3 n i vo
 have mr:=Lib.hid h.mr
 have cf:=hf.cell
 obtain ⟨xb,hxb⟩:∃ xb,xb=w.heap.size:=⟨_,rfl⟩
 rw[<- hxb] at hB
 have HXB:=Lib.hid hxb
 obtain ⟨w1,hw1⟩:∃ w1,w1=w.alloc (.cells #[.int .i64 3,.int .i64 n,.int .i64 i,.int .i64 vo] 45):=⟨_,rfl⟩
 have H1:=Lib.hid hw1.symm
 rw[<- hw1] at cf hB
 have KB:=Lib.hid hB
 have HB:Hid (2<=n/\n<=5/\i<=137/\1<=vo/\vo<768):=Lib.hid ⟨h1,h2,h4,h5,h6⟩
 have HIN:=Lib.hid hin
 have HN6:Hid (n<6):=Lib.hid (by omega)
 have HI:Hid (i<138):=Lib.hid (by omega)
 have en:(n:Int)<6:=by omega
 have en0:(0:Int)<=(n:Int):=by omega
 have x_90a2d7:decide (2<=(n:Int))=true:=decide_eq_true (by omega)
 have x_559d05:decide ((n:Int)<=5)=true:=decide_eq_true (by omega)
 have x_28f649:decide (0<=(i:Int))=true:=decide_eq_true (by omega)
 have x_4c521f:decide ((i:Int)<=137)=true:=decide_eq_true (by omega)
 have x_2080f4:decide (1<=vo)=true:=decide_eq_true (by omega)
 have x_bcd903:decide (vo<768)=true:=decide_eq_true (by omega)
 have xq:((n:Int)==1)=false:=by simp;omega
 have xin:decide ((i:Int)∈Ks n)=false:=decide_eq_false hin
 have HNO:Hid (¬ (2<=(n:Int)/\(n:Int)<=5/\0<=(i:Int)/\(i:Int)<=137/\1<=vo/\vo<768/\(i:Int)∈Ks (n:Int).toNat)):=Lib.hid fun e=>hin (by have:=e.2.2.2.2.2.2;rwa [Int.toNat_natCast] at this)
 clear h1 h2 h4 h5 h6 hin
 clear h hf hB hxb hw1
 go_enter Tryz.func11,Tryz.ntmps11
 go_upto_region 1 with (fail)
 rw[H1.out,<- HXB.out]
 go_upto_region 32 with (first
  |(go_at_call 14;refine KB.out.mono ?_;rintro e w2 ⟨rfl,P2,hd2,hm2⟩;obtain ⟨b0,b1,b2,b3⟩:=hd2.bx.cells;have cf2:=hd2.sm.fs.cell;have KS2:=Lib.hid (do_set_no hd2 hm2 mr.out HNO.out))
  |(go_at_call 31;(with_reducible refine KS2.out.mono ?_);rintro e w3 ⟨rfl,P3,X3,hd3⟩;obtain ⟨d0,d1,d2,d3⟩:=hd3.bx.cells;have cf3:=hd3.sm.fs.cell;have KE3:=Lib.hid (hd3.undoE mr.out);have m3:=hd3.md.cell HN6.out;have nn3:=hd3.md.nd n HN6.out;have n3:=nn3.c3;obtain ⟨sx,hsx⟩:=nn3.map.look (wf_nat HI.out);rw[xin] at hsx;clear nn3))
 have s0:w3.drew.cell? ⟨xb,1,none⟩=some (.int .i64 (n:Int))/\w3.drew.cell? ⟨xb,2,none⟩=some (.int .i64 (i:Int))/\w3.drew.cell? ⟨bm,n,none⟩=some (.pointer (some ⟨bn n,0,none⟩))/\w3.drew.cell? ⟨bn n,3,none⟩=some (.map (some (bp n))):=⟨d1,d2,m3,n3⟩
 obtain ⟨sy,hsy⟩:∃ sy,(Instr.lookup 67 (.map (some (bp n))) (.int .i64 (i:Int)) true).run Tryz.prog w3.drew=.ok (.tuple #[.string sy,.bool false]) w3.drew:=by
  have nn:=(hd3.low (Below.refl _ w3).drew).md.nd n HN6.out
  obtain ⟨sy,hsy⟩:=nn.map.look (wf_nat HI.out)
  rw[xin] at hsy
  exact ⟨sy,hsy⟩
 have KE3:=Lib.hid ((hd3.low (Below.refl _ w3).drew).undoE mr.out)
 have cf4:w3.drew.cell? ⟨bf,0,none⟩=some p:=cf3
 have hS:(w3.drew.cell? ⟨xb,1,none⟩=some (.int .i64 (n:Int))/\w3.drew.cell? ⟨xb,2,none⟩=some (.int .i64 (i:Int))/\w3.drew.cell? ⟨bm,n,none⟩=some (.pointer (some ⟨bn n,0,none⟩))/\w3.drew.cell? ⟨bn n,3,none⟩=some (.map (some (bp n))))/\(Instr.lookup 67 (.map (some (bp n))) (.int .i64 (i:Int)) true).run Tryz.prog w3.drew=.ok (.tuple #[.string sy,.bool false]) w3.drew:=⟨s0,hsy⟩
 clear d0 d1 d2 d3 m3 n3 hsx cf3 hd3 hd2 hm2 s0 hsy
 refine wp_region_held_drew (S:=fun V=>(V.cell? ⟨xb,1,none⟩=some (.int .i64 (n:Int))/\V.cell? ⟨xb,2,none⟩=some (.int .i64 (i:Int))/\V.cell? ⟨bm,n,none⟩=some (.pointer (some ⟨bn n,0,none⟩))/\V.cell? ⟨bn n,3,none⟩=some (.map (some (bp n))))/\(Instr.lookup 67 (.map (some (bp n))) (.int .i64 (i:Int)) true).run Tryz.prog V=.ok (.tuple #[.string sy,.bool false]) V) (by kernel_rfl) hS (fun hHeld=>?_)
 clear hHeld
 refine tk 0 (.pointer (some ⟨bm,0,none⟩)) rfl (by kernel_rfl) (fun _ _ _ h=>h) (Or.inl ⟨by rfl,?_⟩) (by assumption) ?_
 · rintro W ⟨⟨f1,f2,f3,f4⟩,f5⟩;go_simp
 (try simp only[Act.put,q1,q2,q3,q4,q5,q6])
 refine tk 1 (.pointer (some ⟨xb,1,none⟩)) rfl (by kernel_rfl) (fun _ _ _ h=>h) (Or.inl ⟨by rfl,?_⟩) (by assumption) ?_
 · rintro W ⟨⟨f1,f2,f3,f4⟩,f5⟩;go_simp
 (try simp only[Act.put,q1,q2,q3,q4,q5,q6])
 refine tk 2 (.int .i64 (n:Int)) rfl (by kernel_rfl) (fun _ _ _ h=>h) (Or.inl ⟨by rfl,?_⟩) (by assumption) ?_
 · rintro W ⟨⟨f1,f2,f3,f4⟩,f5⟩;go_simp
 (try simp only[Act.put,q1,q2,q3,q4,q5,q6])
 refine tk 3 (.pointer (some ⟨bm,0,none⟩)) rfl (by kernel_rfl) (fun _ _ _ h=>h) (Or.inl ⟨by rfl,?_⟩) (by assumption) ?_
 · rintro W ⟨⟨f1,f2,f3,f4⟩,f5⟩;go_simp
 (try simp only[Act.put,q1,q2,q3,q4,q5,q6])
 refine tk 4 (.pointer (some ⟨bm,0,none⟩)) rfl (by kernel_rfl) (fun _ _ _ h=>h) (Or.inl ⟨by rfl,?_⟩) (by assumption) ?_
 · rintro W ⟨⟨f1,f2,f3,f4⟩,f5⟩;go_simp
 (try simp only[Act.put,q1,q2,q3,q4,q5,q6])
 refine tk 5 (.pointer (some ⟨bm,n,none⟩)) rfl (by kernel_rfl) (fun _ _ _ h=>h) (Or.inl ⟨by rfl,?_⟩) (by assumption) ?_
 · rintro W ⟨⟨f1,f2,f3,f4⟩,f5⟩;go_simp
 (try simp only[Act.put,q1,q2,q3,q4,q5,q6])
 refine tk 6 (.pointer (some ⟨bn n,0,none⟩)) rfl (by kernel_rfl) (fun _ _ _ h=>h) (Or.inl ⟨by rfl,?_⟩) (by assumption) ?_
 · rintro W ⟨⟨f1,f2,f3,f4⟩,f5⟩;go_simp
 (try simp only[Act.put,q1,q2,q3,q4,q5,q6])
 refine tk 7 (.pointer (some ⟨bn n,0,none⟩)) rfl (by kernel_rfl) (fun _ _ _ h=>h) (Or.inl ⟨by rfl,?_⟩) (by assumption) ?_
 · rintro W ⟨⟨f1,f2,f3,f4⟩,f5⟩;go_simp
 (try simp only[Act.put,q1,q2,q3,q4,q5,q6])
 refine tk 8 (.pointer (some ⟨bn n,3,none⟩)) rfl (by kernel_rfl) (fun _ _ _ h=>h) (Or.inl ⟨by rfl,?_⟩) (by assumption) ?_
 · rintro W ⟨⟨f1,f2,f3,f4⟩,f5⟩;go_simp
 (try simp only[Act.put,q1,q2,q3,q4,q5,q6])
 refine tk 9 (.map (some (bp n))) rfl (by kernel_rfl) (fun _ _ _ h=>h) (Or.inl ⟨by rfl,?_⟩) (by assumption) ?_
 · rintro W ⟨⟨f1,f2,f3,f4⟩,f5⟩;go_simp
 (try simp only[Act.put,q1,q2,q3,q4,q5,q6])
 refine tk 10 (.pointer (some ⟨xb,2,none⟩)) rfl (by kernel_rfl) (fun _ _ _ h=>h) (Or.inl ⟨by rfl,?_⟩) (by assumption) ?_
 · rintro W ⟨⟨f1,f2,f3,f4⟩,f5⟩;go_simp
 (try simp only[Act.put,q1,q2,q3,q4,q5,q6])
 refine tk 11 (.int .i64 (i:Int)) rfl (by kernel_rfl) (fun _ _ _ h=>h) (Or.inl ⟨by rfl,?_⟩) (by assumption) ?_
 · rintro W ⟨⟨f1,f2,f3,f4⟩,f5⟩;go_simp
 (try simp only[Act.put,q1,q2,q3,q4,q5,q6])
 refine tk 12 (.tuple #[.string sy,.bool false]) rfl (by kernel_rfl) (fun _ _ _ h=>h) (Or.inl ⟨by rfl,?_⟩) (by assumption) ?_
 · rintro W ⟨⟨f1,f2,f3,f4⟩,f5⟩;go_simp
 (try simp only[Act.put,q1,q2,q3,q4,q5,q6])
 refine tk 13 (.tuple #[.string sy,.bool false]) rfl (by kernel_rfl) (fun _ _ _ h=>h) (Or.inl ⟨by rfl,?_⟩) (by assumption) ?_
 · rintro W ⟨⟨f1,f2,f3,f4⟩,f5⟩;go_simp
 (try simp only[Act.put,q1,q2,q3,q4,q5,q6])
 refine tk 14 (.string sy) rfl (by kernel_rfl) (fun _ _ _ h=>h) (Or.inl ⟨by rfl,?_⟩) (by assumption) ?_
 · rintro W ⟨⟨f1,f2,f3,f4⟩,f5⟩;go_simp
 (try simp only[Act.put,q1,q2,q3,q4,q5,q6])
 refine tk 15 (.bool false) rfl (by kernel_rfl) (fun _ _ _ h=>h) (Or.inl ⟨by rfl,?_⟩) (by assumption) ?_
 · rintro W ⟨⟨f1,f2,f3,f4⟩,f5⟩;go_simp
 (try simp only[Act.put,q1,q2,q3,q4,q5,q6])
 refine tk 16 (.bool false) rfl (by kernel_rfl) (fun _ _ _ h=>h) (Or.inl ⟨by rfl,?_⟩) (by assumption) ?_
 · rintro W ⟨⟨f1,f2,f3,f4⟩,f5⟩;go_simp
 (try simp only[Act.put,q1,q2,q3,q4,q5,q6])
 refine wpAnyH_done (by kernel_rfl) ?_ _
 go_wp2_with (first
  |(go_at_call 19;(with_reducible refine KE3.out.mono ?_);rintro e w4 ⟨rfl,h4⟩))
 go_ret
 exact ⟨rfl,h4⟩
set_option maxHeartbeats 2000000 in
theorem do14_set9 (h:Ps w0 w P d p X S N O kk F bf bm bn bp Ks lim) (h1:2<=n) (h2:n<=5) (h4:i<=137) (h5:1<=vo) (h6:vo<768) (hin:(i:Int)∈Ks n):
 Calls Tryz.prog 11 #[.pointer (some ⟨bm,0,none⟩),.pointer (some ⟨bf,0,none⟩),.agg #[.int .i64 3,.int .i64 n,.int .i64 i,.int .i64 vo]] w fun e w'=>e=.returned (.bool true)/\PsE w0 d p S kk bf bm lim w':=by
 obtain ⟨hf,hB⟩:=h.boxed 3 n i vo
 have mr:=Lib.hid h.mr
 have cf:=hf.cell
 obtain ⟨xb,hxb⟩:∃ xb,xb=w.heap.size:=⟨_,rfl⟩
 rw[<- hxb] at hB
 have HXB:=Lib.hid hxb
 obtain ⟨w1,hw1⟩:∃ w1,w1=w.alloc (.cells #[.int .i64 3,.int .i64 n,.int .i64 i,.int .i64 vo] 45):=⟨_,rfl⟩
 have H1:=Lib.hid hw1.symm
 rw[<- hw1] at cf hB
 have KB:=Lib.hid hB
 have HB:Hid (2<=n/\n<=5/\i<=137/\1<=vo/\vo<768):=Lib.hid ⟨h1,h2,h4,h5,h6⟩
 have HIN:=Lib.hid hin
 have HN6:Hid (n<6):=Lib.hid (by omega)
 have HI:Hid (i<138):=Lib.hid (by omega)
 have en:(n:Int)<6:=by omega
 have en0:(0:Int)<=(n:Int):=by omega
 have x_90a2d7:decide (2<=(n:Int))=true:=decide_eq_true (by omega)
 have x_559d05:decide ((n:Int)<=5)=true:=decide_eq_true (by omega)
 have x_28f649:decide (0<=(i:Int))=true:=decide_eq_true (by omega)
 have x_4c521f:decide ((i:Int)<=137)=true:=decide_eq_true (by omega)
 have x_2080f4:decide (1<=vo)=true:=decide_eq_true (by omega)
 have x_bcd903:decide (vo<768)=true:=decide_eq_true (by omega)
 have xq:((n:Int)==1)=false:=by simp;omega
 have xin:decide ((i:Int)∈Ks n)=true:=decide_eq_true hin
 clear h1 h2 h4 h5 h6 hin
 clear h hf hB hxb hw1
 go_enter Tryz.func11,Tryz.ntmps11
 go_upto_region 1 with (fail)
 rw[H1.out,<- HXB.out]
 go_upto_region 32 with (first
  |(go_at_call 14;refine KB.out.mono ?_;rintro e w2 ⟨rfl,P2,hd2,hm2⟩;obtain ⟨b0,b1,b2,b3⟩:=hd2.bx.cells;have cf2:=hd2.sm.fs.cell;have KS2:=Lib.hid (do_set_ok hd2 hm2 mr.out (no:=(n:Int)) (io:=(i:Int)) (by have:=HB.out;omega) (by have:=HB.out;omega) (by omega) (by have:=HB.out;omega) (by have:=HB.out;omega) (by have:=HB.out;omega) (by rw[Int.toNat_natCast];exact HIN.out)))
  |(go_at_call 31;(with_reducible refine KS2.out.mono ?_);rintro e w3 ⟨rfl,P3,X3,hd3⟩;obtain ⟨d0,d1,d2,d3⟩:=hd3.bx.cells;have cf3:=hd3.sm.fs.cell;have KE3:=Lib.hid (hd3.undoE mr.out);have m3:=hd3.md.cell HN6.out;have nn3:=hd3.md.nd n HN6.out;have n3:=nn3.c3;obtain ⟨sx,hsx⟩:=nn3.map.look (wf_nat HI.out);rw[xin] at hsx;clear nn3))
 have s0:w3.drew.cell? ⟨xb,1,none⟩=some (.int .i64 (n:Int))/\w3.drew.cell? ⟨xb,2,none⟩=some (.int .i64 (i:Int))/\w3.drew.cell? ⟨bm,n,none⟩=some (.pointer (some ⟨bn n,0,none⟩))/\w3.drew.cell? ⟨bn n,3,none⟩=some (.map (some (bp n))):=⟨d1,d2,m3,n3⟩
 obtain ⟨sy,hsy⟩:∃ sy,(Instr.lookup 67 (.map (some (bp n))) (.int .i64 (i:Int)) true).run Tryz.prog w3.drew=.ok (.tuple #[.string sy,.bool true]) w3.drew:=by
  have nn:=(hd3.low (Below.refl _ w3).drew).md.nd n HN6.out
  obtain ⟨sy,hsy⟩:=nn.map.look (wf_nat HI.out)
  rw[xin] at hsy
  exact ⟨sy,hsy⟩
 have KE3:=Lib.hid ((hd3.low (Below.refl _ w3).drew).undoE mr.out)
 have cf4:w3.drew.cell? ⟨bf,0,none⟩=some p:=cf3
 have hS:(w3.drew.cell? ⟨xb,1,none⟩=some (.int .i64 (n:Int))/\w3.drew.cell? ⟨xb,2,none⟩=some (.int .i64 (i:Int))/\w3.drew.cell? ⟨bm,n,none⟩=some (.pointer (some ⟨bn n,0,none⟩))/\w3.drew.cell? ⟨bn n,3,none⟩=some (.map (some (bp n))))/\(Instr.lookup 67 (.map (some (bp n))) (.int .i64 (i:Int)) true).run Tryz.prog w3.drew=.ok (.tuple #[.string sy,.bool true]) w3.drew:=⟨s0,hsy⟩
 clear d0 d1 d2 d3 m3 n3 hsx cf3 hd3 hd2 hm2 s0 hsy
 refine wp_region_held_drew (S:=fun V=>(V.cell? ⟨xb,1,none⟩=some (.int .i64 (n:Int))/\V.cell? ⟨xb,2,none⟩=some (.int .i64 (i:Int))/\V.cell? ⟨bm,n,none⟩=some (.pointer (some ⟨bn n,0,none⟩))/\V.cell? ⟨bn n,3,none⟩=some (.map (some (bp n))))/\(Instr.lookup 67 (.map (some (bp n))) (.int .i64 (i:Int)) true).run Tryz.prog V=.ok (.tuple #[.string sy,.bool true]) V) (by kernel_rfl) hS (fun hHeld=>?_)
 clear hHeld
 refine tk 0 (.pointer (some ⟨bm,0,none⟩)) rfl (by kernel_rfl) (fun _ _ _ h=>h) (Or.inl ⟨by rfl,?_⟩) (by assumption) ?_
 · rintro W ⟨⟨f1,f2,f3,f4⟩,f5⟩;go_simp
 (try simp only[Act.put,q1,q2,q3,q4,q5,q6])
 refine tk 1 (.pointer (some ⟨xb,1,none⟩)) rfl (by kernel_rfl) (fun _ _ _ h=>h) (Or.inl ⟨by rfl,?_⟩) (by assumption) ?_
 · rintro W ⟨⟨f1,f2,f3,f4⟩,f5⟩;go_simp
 (try simp only[Act.put,q1,q2,q3,q4,q5,q6])
 refine tk 2 (.int .i64 (n:Int)) rfl (by kernel_rfl) (fun _ _ _ h=>h) (Or.inl ⟨by rfl,?_⟩) (by assumption) ?_
 · rintro W ⟨⟨f1,f2,f3,f4⟩,f5⟩;go_simp
 (try simp only[Act.put,q1,q2,q3,q4,q5,q6])
 refine tk 3 (.pointer (some ⟨bm,0,none⟩)) rfl (by kernel_rfl) (fun _ _ _ h=>h) (Or.inl ⟨by rfl,?_⟩) (by assumption) ?_
 · rintro W ⟨⟨f1,f2,f3,f4⟩,f5⟩;go_simp
 (try simp only[Act.put,q1,q2,q3,q4,q5,q6])
 refine tk 4 (.pointer (some ⟨bm,0,none⟩)) rfl (by kernel_rfl) (fun _ _ _ h=>h) (Or.inl ⟨by rfl,?_⟩) (by assumption) ?_
 · rintro W ⟨⟨f1,f2,f3,f4⟩,f5⟩;go_simp
 (try simp only[Act.put,q1,q2,q3,q4,q5,q6])
 refine tk 5 (.pointer (some ⟨bm,n,none⟩)) rfl (by kernel_rfl) (fun _ _ _ h=>h) (Or.inl ⟨by rfl,?_⟩) (by assumption) ?_
 · rintro W ⟨⟨f1,f2,f3,f4⟩,f5⟩;go_simp
 (try simp only[Act.put,q1,q2,q3,q4,q5,q6])
 refine tk 6 (.pointer (some ⟨bn n,0,none⟩)) rfl (by kernel_rfl) (fun _ _ _ h=>h) (Or.inl ⟨by rfl,?_⟩) (by assumption) ?_
 · rintro W ⟨⟨f1,f2,f3,f4⟩,f5⟩;go_simp
 (try simp only[Act.put,q1,q2,q3,q4,q5,q6])
 refine tk 7 (.pointer (some ⟨bn n,0,none⟩)) rfl (by kernel_rfl) (fun _ _ _ h=>h) (Or.inl ⟨by rfl,?_⟩) (by assumption) ?_
 · rintro W ⟨⟨f1,f2,f3,f4⟩,f5⟩;go_simp
 (try simp only[Act.put,q1,q2,q3,q4,q5,q6])
 refine tk 8 (.pointer (some ⟨bn n,3,none⟩)) rfl (by kernel_rfl) (fun _ _ _ h=>h) (Or.inl ⟨by rfl,?_⟩) (by assumption) ?_
 · rintro W ⟨⟨f1,f2,f3,f4⟩,f5⟩;go_simp
 (try simp only[Act.put,q1,q2,q3,q4,q5,q6])
 refine tk 9 (.map (some (bp n))) rfl (by kernel_rfl) (fun _ _ _ h=>h) (Or.inl ⟨by rfl,?_⟩) (by assumption) ?_
 · rintro W ⟨⟨f1,f2,f3,f4⟩,f5⟩;go_simp
 (try simp only[Act.put,q1,q2,q3,q4,q5,q6])
 refine tk 10 (.pointer (some ⟨xb,2,none⟩)) rfl (by kernel_rfl) (fun _ _ _ h=>h) (Or.inl ⟨by rfl,?_⟩) (by assumption) ?_
 · rintro W ⟨⟨f1,f2,f3,f4⟩,f5⟩;go_simp
 (try simp only[Act.put,q1,q2,q3,q4,q5,q6])
 refine tk 11 (.int .i64 (i:Int)) rfl (by kernel_rfl) (fun _ _ _ h=>h) (Or.inl ⟨by rfl,?_⟩) (by assumption) ?_
 · rintro W ⟨⟨f1,f2,f3,f4⟩,f5⟩;go_simp
 (try simp only[Act.put,q1,q2,q3,q4,q5,q6])
 refine tk 12 (.tuple #[.string sy,.bool true]) rfl (by kernel_rfl) (fun _ _ _ h=>h) (Or.inl ⟨by rfl,?_⟩) (by assumption) ?_
 · rintro W ⟨⟨f1,f2,f3,f4⟩,f5⟩;go_simp
 (try simp only[Act.put,q1,q2,q3,q4,q5,q6])
 refine tk 13 (.tuple #[.string sy,.bool true]) rfl (by kernel_rfl) (fun _ _ _ h=>h) (Or.inl ⟨by rfl,?_⟩) (by assumption) ?_
 · rintro W ⟨⟨f1,f2,f3,f4⟩,f5⟩;go_simp
 (try simp only[Act.put,q1,q2,q3,q4,q5,q6])
 refine tk 14 (.string sy) rfl (by kernel_rfl) (fun _ _ _ h=>h) (Or.inl ⟨by rfl,?_⟩) (by assumption) ?_
 · rintro W ⟨⟨f1,f2,f3,f4⟩,f5⟩;go_simp
 (try simp only[Act.put,q1,q2,q3,q4,q5,q6])
 refine tk 15 (.bool true) rfl (by kernel_rfl) (fun _ _ _ h=>h) (Or.inl ⟨by rfl,?_⟩) (by assumption) ?_
 · rintro W ⟨⟨f1,f2,f3,f4⟩,f5⟩;go_simp
 (try simp only[Act.put,q1,q2,q3,q4,q5,q6])
 refine tk 16 (.bool true) rfl (by kernel_rfl) (fun _ _ _ h=>h) (Or.inl ⟨by rfl,?_⟩) (by assumption) ?_
 · rintro W ⟨⟨f1,f2,f3,f4⟩,f5⟩;go_simp
 (try simp only[Act.put,q1,q2,q3,q4,q5,q6])
 refine wpAnyH_done (by kernel_rfl) ?_ _
 go_wp2_with (first
  |(go_at_call 19;(with_reducible refine KE3.out.mono ?_);rintro e w4 ⟨rfl,h4⟩))
 go_ret
 exact ⟨rfl,h4⟩
end
section
variable {w0 w:World}{P:Nat->Prop}{d p:Value}{X:XSt}{S:List Int}{N:List (List Int)}{O:List (Int × Int)}{kk:Nat}{F:Nat->List Int}{bf bm:Nat}{bn bp:Nat->Nat}{Ks:Nat->List Int}{lim:Int}{no io vo:Int}{n i:Nat}
set_option maxHeartbeats 2000000 in
theorem do14_cut1 (h:Ps w0 w P d p X S N O kk F bf bm bn bp Ks lim) (hx:io<=9223372036854775807) (h1:no=1):
 Calls Tryz.prog 11 #[.pointer (some ⟨bm,0,none⟩),.pointer (some ⟨bf,0,none⟩),.agg #[.int .i64 2,.int .i64 no,.int .i64 io,.int .i64 vo]] w fun e w'=>e=.returned (.bool true)/\PsE w0 d p S kk bf bm lim w':=by
 obtain ⟨hf,hB⟩:=h.boxed 2 no io vo
 have mr:=Lib.hid h.mr
 have cf:=hf.cell
 obtain ⟨xb,hxb⟩:∃ xb,xb=w.heap.size:=⟨_,rfl⟩
 rw[<- hxb] at hB
 have HXB:=Lib.hid hxb
 obtain ⟨w1,hw1⟩:∃ w1,w1=w.alloc (.cells #[.int .i64 2,.int .i64 no,.int .i64 io,.int .i64 vo] 45):=⟨_,rfl⟩
 have H1:=Lib.hid hw1.symm
 rw[<- hw1] at cf hB
 have KB:=Lib.hid hB
 have HNO:Hid (¬ (2<=no/\no<=5/\0<=io)):=Lib.hid (by omega)
 have HX:=Lib.hid hx
 have x_f69033:decide (2<=no)=false:=decide_eq_false (by omega)
 have xq:(no==1)=true:=by simp;omega
 clear hx h1
 clear h hf hB hxb hw1
 go_enter Tryz.func11,Tryz.ntmps11
 go_upto_region 1 with (fail)
 rw[H1.out,<- HXB.out]
 go_upto_region 26 with (first
  |(go_at_call 14;refine KB.out.mono ?_;rintro e w2 ⟨rfl,P2,hd2,hm2⟩;obtain ⟨b0,b1,b2,b3⟩:=hd2.bx.cells;have cf2:=hd2.sm.fs.cell;have KS2:=Lib.hid (do_cut_idle hd2 hm2 mr.out HX.out HNO.out))
  |(go_at_call 17;(with_reducible refine KS2.out.mono ?_);rintro e w3 ⟨E,rfl,hE,P3,X3,hd3⟩;obtain ⟨d0,d1,d2,d3⟩:=hd3.bx.cells;have cf3:=hd3.sm.fs.cell;have KE3:=Lib.hid (hd3.undoE mr.out)))
 rcases hE with rfl| ⟨_,rfl⟩
 all_goals
  clear hd3 hd2 hm2
  go_wp2_with (first
   |(go_at_call 19;(with_reducible refine KE3.out.mono ?_);rintro e w4 ⟨rfl,h4⟩))
  go_ret
  exact ⟨rfl,h4⟩
set_option maxHeartbeats 2000000 in
theorem do14_cut2 (h:Ps w0 w P d p X S N O kk F bf bm bn bp Ks lim) (hx:io<=9223372036854775807) (h1:no<2) (h2:no≠1):
 Calls Tryz.prog 11 #[.pointer (some ⟨bm,0,none⟩),.pointer (some ⟨bf,0,none⟩),.agg #[.int .i64 2,.int .i64 no,.int .i64 io,.int .i64 vo]] w fun e w'=>e=.returned (.bool true)/\PsE w0 d p S kk bf bm lim w':=by
 obtain ⟨hf,hB⟩:=h.boxed 2 no io vo
 have mr:=Lib.hid h.mr
 have cf:=hf.cell
 obtain ⟨xb,hxb⟩:∃ xb,xb=w.heap.size:=⟨_,rfl⟩
 rw[<- hxb] at hB
 have HXB:=Lib.hid hxb
 obtain ⟨w1,hw1⟩:∃ w1,w1=w.alloc (.cells #[.int .i64 2,.int .i64 no,.int .i64 io,.int .i64 vo] 45):=⟨_,rfl⟩
 have H1:=Lib.hid hw1.symm
 rw[<- hw1] at cf hB
 have KB:=Lib.hid hB
 have HNO:Hid (¬ (2<=no/\no<=5/\0<=io)):=Lib.hid (by omega)
 have HX:=Lib.hid hx
 have x_f69033:decide (2<=no)=false:=decide_eq_false (by omega)
 have xq:(no==1)=false:=by simp;omega
 have HN1:Hid (no≠1):=Lib.hid (by omega)
 clear hx h1 h2
 clear h hf hB hxb hw1
 go_enter Tryz.func11,Tryz.ntmps11
 go_upto_region 1 with (fail)
 rw[H1.out,<- HXB.out]
 go_upto_region 26 with (first
  |(go_at_call 14;refine KB.out.mono ?_;rintro e w2 ⟨rfl,P2,hd2,hm2⟩;obtain ⟨b0,b1,b2,b3⟩:=hd2.bx.cells;have cf2:=hd2.sm.fs.cell;have KS2:=Lib.hid (do_cut_idle hd2 hm2 mr.out HX.out HNO.out))
  |(go_at_call 17;(with_reducible refine KS2.out.mono ?_);rintro e w3 ⟨E,rfl,hE,P3,X3,hd3⟩;obtain ⟨d0,d1,d2,d3⟩:=hd3.bx.cells;have cf3:=hd3.sm.fs.cell;have KE3:=Lib.hid (hd3.undoE mr.out)))
 obtain rfl:E=1:=hE.elim id fun h=>absurd h.1 HN1.out
 clear hE hd3 hd2 hm2
 · go_wp2_with (first
    |(go_at_call 19;(with_reducible refine KE3.out.mono ?_);rintro e w4 ⟨rfl,h4⟩))
   go_ret
   exact ⟨rfl,h4⟩
set_option maxHeartbeats 2000000 in
theorem do14_cut3 (h:Ps w0 w P d p X S N O kk F bf bm bn bp Ks lim) (hx:io<=9223372036854775807) (h1:5<no):
 Calls Tryz.prog 11 #[.pointer (some ⟨bm,0,none⟩),.pointer (some ⟨bf,0,none⟩),.agg #[.int .i64 2,.int .i64 no,.int .i64 io,.int .i64 vo]] w fun e w'=>e=.returned (.bool true)/\PsE w0 d p S kk bf bm lim w':=by
 obtain ⟨hf,hB⟩:=h.boxed 2 no io vo
 have mr:=Lib.hid h.mr
 have cf:=hf.cell
 obtain ⟨xb,hxb⟩:∃ xb,xb=w.heap.size:=⟨_,rfl⟩
 rw[<- hxb] at hB
 have HXB:=Lib.hid hxb
 obtain ⟨w1,hw1⟩:∃ w1,w1=w.alloc (.cells #[.int .i64 2,.int .i64 no,.int .i64 io,.int .i64 vo] 45):=⟨_,rfl⟩
 have H1:=Lib.hid hw1.symm
 rw[<- hw1] at cf hB
 have KB:=Lib.hid hB
 have HNO:Hid (¬ (2<=no/\no<=5/\0<=io)):=Lib.hid (by omega)
 have HX:=Lib.hid hx
 have x_f69033:decide (2<=no)=true:=decide_eq_true (by omega)
 have x_ed260c:decide (no<=5)=false:=decide_eq_false (by omega)
 have xq:(no==1)=false:=by simp;omega
 have HN1:Hid (no≠1):=Lib.hid (by omega)
 clear hx h1
 clear h hf hB hxb hw1
 go_enter Tryz.func11,Tryz.ntmps11
 go_upto_region 1 with (fail)
 rw[H1.out,<- HXB.out]
 go_upto_region 26 with (first
  |(go_at_call 14;refine KB.out.mono ?_;rintro e w2 ⟨rfl,P2,hd2,hm2⟩;obtain ⟨b0,b1,b2,b3⟩:=hd2.bx.cells;have cf2:=hd2.sm.fs.cell;have KS2:=Lib.hid (do_cut_idle hd2 hm2 mr.out HX.out HNO.out))
  |(go_at_call 17;(with_reducible refine KS2.out.mono ?_);rintro e w3 ⟨E,rfl,hE,P3,X3,hd3⟩;obtain ⟨d0,d1,d2,d3⟩:=hd3.bx.cells;have cf3:=hd3.sm.fs.cell;have KE3:=Lib.hid (hd3.undoE mr.out)))
 obtain rfl:E=1:=hE.elim id fun h=>absurd h.1 HN1.out
 clear hE hd3 hd2 hm2
 · go_wp2_with (first
    |(go_at_call 19;(with_reducible refine KE3.out.mono ?_);rintro e w4 ⟨rfl,h4⟩))
   go_ret
   exact ⟨rfl,h4⟩
set_option maxHeartbeats 2000000 in
theorem do14_cut4 (h:Ps w0 w P d p X S N O kk F bf bm bn bp Ks lim) (hx:io<=9223372036854775807) (h1:2<=no) (h2:no<=5) (h3:io<0):
 Calls Tryz.prog 11 #[.pointer (some ⟨bm,0,none⟩),.pointer (some ⟨bf,0,none⟩),.agg #[.int .i64 2,.int .i64 no,.int .i64 io,.int .i64 vo]] w fun e w'=>e=.returned (.bool true)/\PsE w0 d p S kk bf bm lim w':=by
 obtain ⟨hf,hB⟩:=h.boxed 2 no io vo
 have mr:=Lib.hid h.mr
 have cf:=hf.cell
 obtain ⟨xb,hxb⟩:∃ xb,xb=w.heap.size:=⟨_,rfl⟩
 rw[<- hxb] at hB
 have HXB:=Lib.hid hxb
 obtain ⟨w1,hw1⟩:∃ w1,w1=w.alloc (.cells #[.int .i64 2,.int .i64 no,.int .i64 io,.int .i64 vo] 45):=⟨_,rfl⟩
 have H1:=Lib.hid hw1.symm
 rw[<- hw1] at cf hB
 have KB:=Lib.hid hB
 have HNO:Hid (¬ (2<=no/\no<=5/\0<=io)):=Lib.hid (by omega)
 have HX:=Lib.hid hx
 have x_f69033:decide (2<=no)=true:=decide_eq_true (by omega)
 have x_ed260c:decide (no<=5)=true:=decide_eq_true (by omega)
 have x_94d21c:decide (io<0)=true:=decide_eq_true (by omega)
 have xq:(no==1)=false:=by simp;omega
 have HN1:Hid (no≠1):=Lib.hid (by omega)
 clear hx h1 h2 h3
 clear h hf hB hxb hw1
 go_enter Tryz.func11,Tryz.ntmps11
 go_upto_region 1 with (fail)
 rw[H1.out,<- HXB.out]
 go_upto_region 26 with (first
  |(go_at_call 14;refine KB.out.mono ?_;rintro e w2 ⟨rfl,P2,hd2,hm2⟩;obtain ⟨b0,b1,b2,b3⟩:=hd2.bx.cells;have cf2:=hd2.sm.fs.cell;have KS2:=Lib.hid (do_cut_idle hd2 hm2 mr.out HX.out HNO.out))
  |(go_at_call 17;(with_reducible refine KS2.out.mono ?_);rintro e w3 ⟨E,rfl,hE,P3,X3,hd3⟩;obtain ⟨d0,d1,d2,d3⟩:=hd3.bx.cells;have cf3:=hd3.sm.fs.cell;have KE3:=Lib.hid (hd3.undoE mr.out)))
 obtain rfl:E=1:=hE.elim id fun h=>absurd h.1 HN1.out
 clear hE hd3 hd2 hm2
 · go_wp2_with (first
    |(go_at_call 19;(with_reducible refine KE3.out.mono ?_);rintro e w4 ⟨rfl,h4⟩))
   go_ret
   exact ⟨rfl,h4⟩
end
section
variable {w0 w:World}{P:Nat->Prop}{d p:Value}{X:XSt}{S:List Int}{N:List (List Int)}{O:List (Int × Int)}{kk:Nat}{F:Nat->List Int}{bf bm:Nat}{bn bp:Nat->Nat}{Ks:Nat->List Int}{lim:Int}{no io vo:Int}{n i:Nat}
set_option maxHeartbeats 2000000 in
theorem do14_map1 (h:Ps w0 w P d p X S N O kk F bf bm bn bp Ks lim) (h1:no=1):
 Calls Tryz.prog 11 #[.pointer (some ⟨bm,0,none⟩),.pointer (some ⟨bf,0,none⟩),.agg #[.int .i64 1,.int .i64 no,.int .i64 io,.int .i64 vo]] w fun e w'=>e=.returned (.bool true)/\PsE w0 d p S kk bf bm lim w':=by
 obtain ⟨hf,hB⟩:=h.boxed 1 no io vo
 have mr:=Lib.hid h.mr
 have cf:=hf.cell
 obtain ⟨xb,hxb⟩:∃ xb,xb=w.heap.size:=⟨_,rfl⟩
 rw[<- hxb] at hB
 have HXB:=Lib.hid hxb
 obtain ⟨w1,hw1⟩:∃ w1,w1=w.alloc (.cells #[.int .i64 1,.int .i64 no,.int .i64 io,.int .i64 vo] 45):=⟨_,rfl⟩
 have H1:=Lib.hid hw1.symm
 rw[<- hw1] at cf hB
 have KB:=Lib.hid hB
 have HNO:Hid (¬ (2<=no/\no<=5/\0<=io/\io<=137)):=Lib.hid (by omega)
 have x_f69033:decide (2<=no)=false:=decide_eq_false (by omega)
 have xq:(no==1)=true:=by simp;omega
 clear h1
 clear h hf hB hxb hw1
 go_enter Tryz.func11,Tryz.ntmps11
 go_upto_region 1 with (fail)
 rw[H1.out,<- HXB.out]
 go_upto_region 15 with (first
  |(go_at_call 14;refine KB.out.mono ?_;rintro e w2 ⟨rfl,P2,hd2,hm2⟩;obtain ⟨b0,b1,b2,b3⟩:=hd2.bx.cells;have cf2:=hd2.sm.fs.cell;have KS2:=Lib.hid (do_map_idle hd2 hm2 mr.out HNO.out))
  |(go_at_call 15;(with_reducible refine KS2.out.mono ?_);rintro e w3 ⟨v,E,rfl,hE,P3,X3,hd3⟩;obtain ⟨d0,d1,d2,d3⟩:=hd3.bx.cells;have cf3:=hd3.sm.fs.cell;have KE3:=Lib.hid (hd3.undoE mr.out)))
 rcases hE with rfl| ⟨_,rfl|rfl⟩
 all_goals
  clear hd3 hd2 hm2
  go_wp2_with (first
   |(go_at_call 19;(with_reducible refine KE3.out.mono ?_);rintro e w4 ⟨rfl,h4⟩))
  go_ret
  exact ⟨rfl,h4⟩
set_option maxHeartbeats 2000000 in
theorem do14_map2 (h:Ps w0 w P d p X S N O kk F bf bm bn bp Ks lim) (h1:no<2) (h2:no≠1):
 Calls Tryz.prog 11 #[.pointer (some ⟨bm,0,none⟩),.pointer (some ⟨bf,0,none⟩),.agg #[.int .i64 1,.int .i64 no,.int .i64 io,.int .i64 vo]] w fun e w'=>e=.returned (.bool true)/\PsE w0 d p S kk bf bm lim w':=by
 obtain ⟨hf,hB⟩:=h.boxed 1 no io vo
 have mr:=Lib.hid h.mr
 have cf:=hf.cell
 obtain ⟨xb,hxb⟩:∃ xb,xb=w.heap.size:=⟨_,rfl⟩
 rw[<- hxb] at hB
 have HXB:=Lib.hid hxb
 obtain ⟨w1,hw1⟩:∃ w1,w1=w.alloc (.cells #[.int .i64 1,.int .i64 no,.int .i64 io,.int .i64 vo] 45):=⟨_,rfl⟩
 have H1:=Lib.hid hw1.symm
 rw[<- hw1] at cf hB
 have KB:=Lib.hid hB
 have HNO:Hid (¬ (2<=no/\no<=5/\0<=io/\io<=137)):=Lib.hid (by omega)
 have x_f69033:decide (2<=no)=false:=decide_eq_false (by omega)
 have xq:(no==1)=false:=by simp;omega
 have HN1:Hid (no≠1):=Lib.hid (by omega)
 clear h1 h2
 clear h hf hB hxb hw1
 go_enter Tryz.func11,Tryz.ntmps11
 go_upto_region 1 with (fail)
 rw[H1.out,<- HXB.out]
 go_upto_region 15 with (first
  |(go_at_call 14;refine KB.out.mono ?_;rintro e w2 ⟨rfl,P2,hd2,hm2⟩;obtain ⟨b0,b1,b2,b3⟩:=hd2.bx.cells;have cf2:=hd2.sm.fs.cell;have KS2:=Lib.hid (do_map_idle hd2 hm2 mr.out HNO.out))
  |(go_at_call 15;(with_reducible refine KS2.out.mono ?_);rintro e w3 ⟨v,E,rfl,hE,P3,X3,hd3⟩;obtain ⟨d0,d1,d2,d3⟩:=hd3.bx.cells;have cf3:=hd3.sm.fs.cell;have KE3:=Lib.hid (hd3.undoE mr.out)))
 obtain rfl:E=1:=hE.elim id fun h=>absurd h.1 HN1.out
 clear hE hd3 hd2 hm2
 · go_wp2_with (first
    |(go_at_call 19;(with_reducible refine KE3.out.mono ?_);rintro e w4 ⟨rfl,h4⟩))
   go_ret
   exact ⟨rfl,h4⟩
set_option maxHeartbeats 2000000 in
theorem do14_map3 (h:Ps w0 w P d p X S N O kk F bf bm bn bp Ks lim) (h1:5<no):
 Calls Tryz.prog 11 #[.pointer (some ⟨bm,0,none⟩),.pointer (some ⟨bf,0,none⟩),.agg #[.int .i64 1,.int .i64 no,.int .i64 io,.int .i64 vo]] w fun e w'=>e=.returned (.bool true)/\PsE w0 d p S kk bf bm lim w':=by
 obtain ⟨hf,hB⟩:=h.boxed 1 no io vo
 have mr:=Lib.hid h.mr
 have cf:=hf.cell
 obtain ⟨xb,hxb⟩:∃ xb,xb=w.heap.size:=⟨_,rfl⟩
 rw[<- hxb] at hB
 have HXB:=Lib.hid hxb
 obtain ⟨w1,hw1⟩:∃ w1,w1=w.alloc (.cells #[.int .i64 1,.int .i64 no,.int .i64 io,.int .i64 vo] 45):=⟨_,rfl⟩
 have H1:=Lib.hid hw1.symm
 rw[<- hw1] at cf hB
 have KB:=Lib.hid hB
 have HNO:Hid (¬ (2<=no/\no<=5/\0<=io/\io<=137)):=Lib.hid (by omega)
 have x_f69033:decide (2<=no)=true:=decide_eq_true (by omega)
 have x_ed260c:decide (no<=5)=false:=decide_eq_false (by omega)
 have xq:(no==1)=false:=by simp;omega
 have HN1:Hid (no≠1):=Lib.hid (by omega)
 clear h1
 clear h hf hB hxb hw1
 go_enter Tryz.func11,Tryz.ntmps11
 go_upto_region 1 with (fail)
 rw[H1.out,<- HXB.out]
 go_upto_region 15 with (first
  |(go_at_call 14;refine KB.out.mono ?_;rintro e w2 ⟨rfl,P2,hd2,hm2⟩;obtain ⟨b0,b1,b2,b3⟩:=hd2.bx.cells;have cf2:=hd2.sm.fs.cell;have KS2:=Lib.hid (do_map_idle hd2 hm2 mr.out HNO.out))
  |(go_at_call 15;(with_reducible refine KS2.out.mono ?_);rintro e w3 ⟨v,E,rfl,hE,P3,X3,hd3⟩;obtain ⟨d0,d1,d2,d3⟩:=hd3.bx.cells;have cf3:=hd3.sm.fs.cell;have KE3:=Lib.hid (hd3.undoE mr.out)))
 obtain rfl:E=1:=hE.elim id fun h=>absurd h.1 HN1.out
 clear hE hd3 hd2 hm2
 · go_wp2_with (first
    |(go_at_call 19;(with_reducible refine KE3.out.mono ?_);rintro e w4 ⟨rfl,h4⟩))
   go_ret
   exact ⟨rfl,h4⟩
set_option maxHeartbeats 2000000 in
theorem do14_map4 (h:Ps w0 w P d p X S N O kk F bf bm bn bp Ks lim) (h1:2<=no) (h2:no<=5) (h3:io<0):
 Calls Tryz.prog 11 #[.pointer (some ⟨bm,0,none⟩),.pointer (some ⟨bf,0,none⟩),.agg #[.int .i64 1,.int .i64 no,.int .i64 io,.int .i64 vo]] w fun e w'=>e=.returned (.bool true)/\PsE w0 d p S kk bf bm lim w':=by
 obtain ⟨hf,hB⟩:=h.boxed 1 no io vo
 have mr:=Lib.hid h.mr
 have cf:=hf.cell
 obtain ⟨xb,hxb⟩:∃ xb,xb=w.heap.size:=⟨_,rfl⟩
 rw[<- hxb] at hB
 have HXB:=Lib.hid hxb
 obtain ⟨w1,hw1⟩:∃ w1,w1=w.alloc (.cells #[.int .i64 1,.int .i64 no,.int .i64 io,.int .i64 vo] 45):=⟨_,rfl⟩
 have H1:=Lib.hid hw1.symm
 rw[<- hw1] at cf hB
 have KB:=Lib.hid hB
 have HNO:Hid (¬ (2<=no/\no<=5/\0<=io/\io<=137)):=Lib.hid (by omega)
 have x_f69033:decide (2<=no)=true:=decide_eq_true (by omega)
 have x_ed260c:decide (no<=5)=true:=decide_eq_true (by omega)
 have x_94d21c:decide (io<0)=true:=decide_eq_true (by omega)
 have xq:(no==1)=false:=by simp;omega
 have HN1:Hid (no≠1):=Lib.hid (by omega)
 clear h1 h2 h3
 clear h hf hB hxb hw1
 go_enter Tryz.func11,Tryz.ntmps11
 go_upto_region 1 with (fail)
 rw[H1.out,<- HXB.out]
 go_upto_region 15 with (first
  |(go_at_call 14;refine KB.out.mono ?_;rintro e w2 ⟨rfl,P2,hd2,hm2⟩;obtain ⟨b0,b1,b2,b3⟩:=hd2.bx.cells;have cf2:=hd2.sm.fs.cell;have KS2:=Lib.hid (do_map_idle hd2 hm2 mr.out HNO.out))
  |(go_at_call 15;(with_reducible refine KS2.out.mono ?_);rintro e w3 ⟨v,E,rfl,hE,P3,X3,hd3⟩;obtain ⟨d0,d1,d2,d3⟩:=hd3.bx.cells;have cf3:=hd3.sm.fs.cell;have KE3:=Lib.hid (hd3.undoE mr.out)))
 obtain rfl:E=1:=hE.elim id fun h=>absurd h.1 HN1.out
 clear hE hd3 hd2 hm2
 · go_wp2_with (first
    |(go_at_call 19;(with_reducible refine KE3.out.mono ?_);rintro e w4 ⟨rfl,h4⟩))
   go_ret
   exact ⟨rfl,h4⟩
set_option maxHeartbeats 2000000 in
theorem do14_map5 (h:Ps w0 w P d p X S N O kk F bf bm bn bp Ks lim) (h1:2<=no) (h2:no<=5) (h3:137<io):
 Calls Tryz.prog 11 #[.pointer (some ⟨bm,0,none⟩),.pointer (some ⟨bf,0,none⟩),.agg #[.int .i64 1,.int .i64 no,.int .i64 io,.int .i64 vo]] w fun e w'=>e=.returned (.bool true)/\PsE w0 d p S kk bf bm lim w':=by
 obtain ⟨hf,hB⟩:=h.boxed 1 no io vo
 have mr:=Lib.hid h.mr
 have cf:=hf.cell
 obtain ⟨xb,hxb⟩:∃ xb,xb=w.heap.size:=⟨_,rfl⟩
 rw[<- hxb] at hB
 have HXB:=Lib.hid hxb
 obtain ⟨w1,hw1⟩:∃ w1,w1=w.alloc (.cells #[.int .i64 1,.int .i64 no,.int .i64 io,.int .i64 vo] 45):=⟨_,rfl⟩
 have H1:=Lib.hid hw1.symm
 rw[<- hw1] at cf hB
 have KB:=Lib.hid hB
 have HNO:Hid (¬ (2<=no/\no<=5/\0<=io/\io<=137)):=Lib.hid (by omega)
 have x_f69033:decide (2<=no)=true:=decide_eq_true (by omega)
 have x_ed260c:decide (no<=5)=true:=decide_eq_true (by omega)
 have x_94d21c:decide (io<0)=false:=decide_eq_false (by omega)
 have x_087842:decide (137<io)=true:=decide_eq_true (by omega)
 have xq:(no==1)=false:=by simp;omega
 have HN1:Hid (no≠1):=Lib.hid (by omega)
 clear h1 h2 h3
 clear h hf hB hxb hw1
 go_enter Tryz.func11,Tryz.ntmps11
 go_upto_region 1 with (fail)
 rw[H1.out,<- HXB.out]
 go_upto_region 15 with (first
  |(go_at_call 14;refine KB.out.mono ?_;rintro e w2 ⟨rfl,P2,hd2,hm2⟩;obtain ⟨b0,b1,b2,b3⟩:=hd2.bx.cells;have cf2:=hd2.sm.fs.cell;have KS2:=Lib.hid (do_map_idle hd2 hm2 mr.out HNO.out))
  |(go_at_call 15;(with_reducible refine KS2.out.mono ?_);rintro e w3 ⟨v,E,rfl,hE,P3,X3,hd3⟩;obtain ⟨d0,d1,d2,d3⟩:=hd3.bx.cells;have cf3:=hd3.sm.fs.cell;have KE3:=Lib.hid (hd3.undoE mr.out)))
 obtain rfl:E=1:=hE.elim id fun h=>absurd h.1 HN1.out
 clear hE hd3 hd2 hm2
 · go_wp2_with (first
    |(go_at_call 19;(with_reducible refine KE3.out.mono ?_);rintro e w4 ⟨rfl,h4⟩))
   go_ret
   exact ⟨rfl,h4⟩
end
section
variable {w0 w:World}{P:Nat->Prop}{d p:Value}{X:XSt}{S:List Int}{N:List (List Int)}{O:List (Int × Int)}{kk:Nat}{F:Nat->List Int}{bf bm:Nat}{bn bp:Nat->Nat}{Ks:Nat->List Int}{lim:Int}{no io vo:Int}{n i:Nat}
theorem updK_self (Ks:Nat->List Int) (n:Nat):updK Ks n (Ks n)=Ks:=by
 funext a;unfold updK;split
 · next e=>rw[e]
 · rfl
theorem updK_two (Ks:Nat->List Int) (n:Nat) (K K':List Int):updK (updK Ks n K) n K'=updK Ks n K':=by
 funext a;unfold updK;split <;> rfl
def CutM (w0:World) (P:Nat->Prop) (d p:Value) (X:XSt) (S:List Int) (N N3:List (List Int)) (O O3:List (Int × Int)) (kk:Nat) (F F3:Nat->List Int) (bf bm:Nat) (bn bp:Nat->Nat) (Ks:Nat->List Int) (lim:Int) (xb n i:Nat) (vo:Int) (k:Nat) (wr:World):Prop:=
 ∃ K,Pd w0 wr P d p X S N O kk F bf bm bn bp (updK Ks n K) lim xb 2 n i vo/\Fmd wr P d p X S N3 O3 kk F3 bf/\∀ x,x∈K ↔ x∈Ks n/\¬ ((i:Int)<=x/\x<k)
theorem CutM.step {N3:List (List Int)}{O3:List (Int × Int)}{F3:Nat->List Int}{xb k:Nat}{wr:World} (h:CutM w0 P d p X S N N3 O O3 kk F F3 bf bm bn bp Ks lim xb n i vo k wr) (hn:n<6) (hi:i<=k) (hk:k<138):
 (wr.drew.cell? ⟨xb,1,none⟩=some (.int .i64 (n:Int))/\wr.drew.cell? ⟨bm,n,none⟩=some (.pointer (some ⟨bn n,0,none⟩))/\wr.drew.cell? ⟨bn n,3,none⟩=some (.map (some (bp n))))/\
 ∃ w',(Builtin.delete_ #[67,3] 0 #[.map (some (bp n)),.int .i64 (k:Int)]).run Tryz.prog wr.drew=.ok (.tuple #[]) w'/\CutM w0 P d p X S N N3 O O3 kk F F3 bf bm bn bp Ks lim xb n i vo (k+1) w':=by
 obtain ⟨K,hd,hm,hK⟩:=h
 have hb:=(Below.refl wr.heap.size wr).drew
 have hd2:=hd.low hb
 have hm2:=hm.low hb
 refine ⟨⟨hd2.bx.cells.2.1,hd2.md.cell hn,(hd2.md.nd n hn).c3⟩,?_⟩
 obtain ⟨w',hr,hd3,hf⟩:=hd2.drop hn hk 0
 rw[updK_at,updK_two] at hd3
 have hnd:K.Nodup:=by
  have:=(hd2.md.nd n hn).map.nodup
  rwa [updK_at] at this
 refine ⟨w',hr,K.erase (k:Int),hd3,hf hm2,fun x=>?_⟩
 rw[hnd.mem_erase_iff,hK]
 constructor
 · rintro ⟨a,b,c⟩;exact ⟨b,fun e=>c ⟨e.1,by omega⟩⟩
 · rintro ⟨a,b⟩;exact ⟨fun e=>b (by omega),a,fun e=>b ⟨e.1,by omega⟩⟩
theorem CutM.skip {N3:List (List Int)}{O3:List (Int × Int)}{F3:Nat->List Int}{xb k:Nat}{wr:World} (h:CutM w0 P d p X S N N3 O O3 kk F F3 bf bm bn bp Ks lim xb n i vo k wr) (hi:k<i):CutM w0 P d p X S N N3 O O3 kk F F3 bf bm bn bp Ks lim xb n i vo (k+1) wr:=by
 obtain ⟨K,hd,hm,hK⟩:=h
 refine ⟨K,hd,hm,fun x=>?_⟩
 rw[hK]
 constructor
 · rintro ⟨a,b⟩;exact ⟨a,fun e=>b ⟨e.1,by omega⟩⟩
 · rintro ⟨a,b⟩;exact ⟨a,fun e=>b ⟨e.1,by omega⟩⟩
set_option maxHeartbeats 2000000 in
theorem do14_cut9 (h:Ps w0 w P d p X S N O kk F bf bm bn bp Ks lim) (h1:2<=n) (h2:n<=5) (hx:(i:Int)<=9223372036854775807):
 Calls Tryz.prog 11 #[.pointer (some ⟨bm,0,none⟩),.pointer (some ⟨bf,0,none⟩),.agg #[.int .i64 2,.int .i64 n,.int .i64 i,.int .i64 vo]] w fun e w'=>e=.returned (.bool true)/\PsE w0 d p S kk bf bm lim w':=by
 obtain ⟨hf,hB⟩:=h.boxed 2 n i vo
 have mr:=Lib.hid h.mr
 have cf:=hf.cell
 obtain ⟨xb,hxb⟩:∃ xb,xb=w.heap.size:=⟨_,rfl⟩
 rw[<- hxb] at hB
 have HXB:=Lib.hid hxb
 obtain ⟨w1,hw1⟩:∃ w1,w1=w.alloc (.cells #[.int .i64 2,.int .i64 n,.int .i64 i,.int .i64 vo] 45):=⟨_,rfl⟩
 have H1:=Lib.hid hw1.symm
 rw[<- hw1] at cf hB
 have KB:=Lib.hid hB
 have HB:Hid (2<=n/\n<=5/\(i:Int)<=9223372036854775807):=Lib.hid ⟨h1,h2,hx⟩
 have HBD:Hid (∀ x∈Ks n,0<=x/\x<138):=Lib.hid (h.md.nd n (by omega)).bd
 have en:(n:Int)<6:=by omega
 have en0:(0:Int)<=(n:Int):=by omega
 have x_90a2d7:decide (2<=(n:Int))=true:=decide_eq_true (by omega)
 have x_559d05:decide ((n:Int)<=5)=true:=decide_eq_true (by omega)
 have x_31299b:decide ((i:Int)<0)=false:=decide_eq_false (by omega)
 clear h1 h2 hx
 clear h hf hB hxb hw1
 go_enter Tryz.func11,Tryz.ntmps11
 go_upto_region 1 with (fail)
 rw[H1.out,<- HXB.out]
 go_wp2_with (first
  |(go_at_call 14;refine KB.out.mono ?_;rintro e w2 ⟨rfl,P2,hd2,hm2⟩;obtain ⟨b0,b1,b2,b3⟩:=hd2.bx.cells;have cf2:=hd2.sm.fs.cell;have KS2:=Lib.hid (do_cut_ok hd2 hm2 mr.out HB.out.2.2 (by have:=HB.out;omega) (by have:=HB.out;omega) (by omega)))
  |(go_at_call 17;(with_reducible refine KS2.out.mono ?_);rintro e w3 ⟨rfl,P3,X3,N3,O3,F3,hd3,hm3,hr3⟩;obtain ⟨d0,d1,d2,d3⟩:=hd3.bx.cells))
 have HC0:Hid (CutM w0 P3 d p X3 S N N3 O O3 kk F F3 bf bm bn bp Ks lim xb n i vo 0 w3):=Lib.hid ⟨Ks n,by rw[updK_self];exact hd3,hm3,fun x=>⟨fun e=>⟨e,fun e2=>by omega⟩,fun e=>e.1⟩⟩
 have HR:=Lib.hid hr3
 clear hd3 hm3 hr3 d0 d1 d2 d3 hd2 hm2 b0 b1 b2 b3 cf2
 go_loopw [111] (fun j wr=>∃ k:Nat,k<=138/\j=.int .i64 k/\Hid (CutM w0 P3 d p X3 S N N3 O O3 kk F F3 bf bm bn bp Ks lim xb n i vo k wr)) (fun j _=>138-(intOf j).toNat)
 case atStart=>exact ⟨0,by omega,rfl,HC0⟩
 case round=>
  obtain ⟨k,hk,rfl,HC⟩:=hrel
  clear HC0
  by_cases hlt:k<138
  · have ek:(k:Int)<138:=by omega
    have hb2:wr.cell? ⟨xb,2,none⟩=some (.int .i64 (i:Int)):=by
     obtain ⟨K,hd,_,_⟩:=HC.out
     exact hd.bx.cells.2.2.1
    by_cases hik:i<=k
    · obtain ⟨⟨f1,f2,f3⟩,w4,hdel,h4⟩:=HC.out.step (by have:=HB.out;omega) hik hlt
      have HC4:=Lib.hid h4
      have eik:(i:Int)<=(k:Int):=by omega
      clear h4 HC
      go_wp2
      go_still_tail 11,(by kernel_rfl)
      go_wp2
      go_roundw
      case rel=>exact ⟨k+1,by omega,by go_num,HC4⟩
      case measure=>simp[intOf];omega
    · have HC4:=Lib.hid (HC.out.skip (by omega))
      have eik:¬ (i:Int)<=(k:Int):=by omega
      clear HC
      go_wp2
      go_roundw
      case rel=>exact ⟨k+1,by omega,by go_num,HC4⟩
      case measure=>simp[intOf];omega
  · obtain rfl:k=138:=by omega
    obtain ⟨K,hd,hm,hK⟩:=HC.out
    have hr:=HR.out K (fun x=>by
     rw[hK,Int.toNat_natCast]
     constructor
     · rintro ⟨a,b⟩;exact ⟨a,Classical.byContradiction fun e=>b ⟨by omega,by have:=HBD.out x a;omega⟩⟩
     · rintro ⟨a,b⟩;exact ⟨a,fun e=>by omega⟩)
    rw[Int.toNat_natCast] at hr
    have KE3:=Lib.hid (hd.keepE hm hr)
    have cf3:=hd.sm.fs.cell
    clear hd hm hr hK HC
    go_wp2_with (first
     |(go_at_call 19;(with_reducible refine KE3.out.mono ?_);rintro e w4 ⟨rfl,h4⟩))
    go_ret
    exact ⟨by trivial,h4⟩
end
section
variable {w0 w:World}{P:Nat->Prop}{d p:Value}{X:XSt}{S:List Int}{N:List (List Int)}{O:List (Int × Int)}{kk:Nat}{F:Nat->List Int}{bf bm:Nat}{bn bp:Nat->Nat}{Ks:Nat->List Int}{lim:Int}{no io vo:Int}{n i:Nat}
set_option maxHeartbeats 2000000 in
theorem do14_map8 (h:Ps w0 w P d p X S N O kk F bf bm bn bp Ks lim) {xb:Nat} (hxx:xb=w.heap.size) (h1:2<=n) (h2:n<=5) (h4:i<=137) (hle:(totM (updK Ks n (addS (Ks n) i)) 6:Int)<=lim):
 Calls Tryz.prog 11 #[.pointer (some ⟨bm,0,none⟩),.pointer (some ⟨bf,0,none⟩),.agg #[.int .i64 1,.int .i64 n,.int .i64 i,.int .i64 vo]] w fun e w'=>e=.returned (.bool true)/\PsE w0 d p S kk bf bm lim w':=by
 obtain ⟨hf,hB⟩:=h.boxed 1 n i vo
 have mr:=Lib.hid h.mr
 have cf:=hf.cell
 have hxb:=hxx
 clear hxx
 rw[<- hxb] at hB
 have HXB:=Lib.hid hxb
 obtain ⟨w1,hw1⟩:∃ w1,w1=w.alloc (.cells #[.int .i64 1,.int .i64 n,.int .i64 i,.int .i64 vo] 45):=⟨_,rfl⟩
 have H1:=Lib.hid hw1.symm
 rw[<- hw1] at cf hB
 have KB:=Lib.hid hB
 have HN6:Hid (n<6):=Lib.hid (by omega)
 have HI:Hid (i<138):=Lib.hid (by omega)
 have HB:Hid (2<=n/\n<=5/\i<=137):=Lib.hid ⟨h1,h2,h4⟩
 have en:(n:Int)<6:=by omega
 have en0:(0:Int)<=(n:Int):=by omega
 have x_90a2d7:decide (2<=(n:Int))=true:=decide_eq_true (by omega)
 have x_559d05:decide ((n:Int)<=5)=true:=decide_eq_true (by omega)
 have x_31299b:decide ((i:Int)<0)=false:=decide_eq_false (by omega)
 have x_1b9548:decide (137<(i:Int))=false:=decide_eq_false (by omega)
 have HLE:Hid ((totM (updK Ks n (addS (Ks n) i)) 6:Int)<=lim):=Lib.hid hle
 have HT:Hid (∀ V P' X' p' d',Pd w0 V P' d' p' (callX X') S N O kk F bf bm bn bp Ks lim xb 1 n i vo->Fmd V P' d' p' (callX X') S N O kk F bf->Calls Tryz.prog 15 #[.pointer (some ⟨bf,0,none⟩),.int .i64 (n:Int),.int .i64 (i:Int)] V fun e w'=>∃ v:Int,e=.returned (.tuple #[.int .i64 v,.int .i64 0])/\0<v/\∃ P'' X'' N' O' F',Pd w0 w' P'' d' p' X'' S N O kk F bf bm bn bp Ks lim xb 1 n i vo/\Fmd w' P'' d' p' X'' S N' O' kk F' bf/\Mr N' O' kk F' (updK Ks n (addS (Ks n) i)) lim):=Lib.hid fun V P' X' p' d' hd hm=>by
  by_cases hin:(i:Int)∈Ks n
  · refine (do_map_was hd hm mr.out (no:=(n:Int)) (io:=(i:Int)) (by omega) (by omega) (by omega) (by omega) (by rw[Int.toNat_natCast];exact hin)).mono ?_
    rintro e w' ⟨v,he,hv,P'',hd',hm'⟩
    exact ⟨v,he,hv,P'',_,_,_,_,hd',hm',mr.out.congr (by omega) fun y=>by rw[addS_iff];exact ⟨fun e=>e.elim id fun e=>e ▸ hin,.inl⟩⟩
  · refine (do_map_ok hd hm mr.out (no:=(n:Int)) (io:=(i:Int)) (by omega) (by omega) (by omega) (by omega) (by rw[Int.toNat_natCast];exact hin) (by rw[Int.toNat_natCast];exact hle)).mono ?_
    rintro e w' ⟨v,he,hv,P'',X'',N',O',F',hd',hm',hr⟩
    rw[Int.toNat_natCast] at hr
    exact ⟨v,he,hv,P'',X'',N',O',F',hd',hm',hr⟩
 clear h1 h2 h4 hle
 clear h hf hB hxb hw1
 go_enter Tryz.func11,Tryz.ntmps11
 go_upto_region 1 with (fail)
 rw[H1.out,<- HXB.out]
 go_upto_region 9 with (first
  |(go_at_call 14;refine KB.out.mono ?_;rintro e w2 ⟨rfl,P2,hd2,hm2⟩;obtain ⟨b0,b1,b2,b3⟩:=hd2.bx.cells;have cf2:=hd2.sm.fs.cell;have KS2:=Lib.hid (HT.out _ _ _ _ _ hd2 hm2))
  |(go_at_call 15;(with_reducible refine KS2.out.mono ?_);rintro e w3 ⟨v,rfl,hv,P3,X3,N3,O3,F3,hd3,hm3,hr3⟩;obtain ⟨d0,d1,d2,d3⟩:=hd3.bx.cells))
 have hb3:=(Below.refl w3.heap.size w3).drew
 have hd3d:=hd3.low hb3
 have s1:=hd3d.bx.cells.2.1
 have s2:=hd3d.md.cell HN6.out
 have KC:=Lib.hid (nCopy_of (hd3d.md.nd n HN6.out))
 have HD3:=Lib.hid hd3d
 have HM3:=Lib.hid (hm3.low hb3)
 have HR3:=Lib.hid hr3
 clear d0 d1 d2 d3 hd3 hd3d hb3
 go_still_tail 7,(by kernel_rfl)
 go_upto_region 10 with (go_at_call 30;(with_reducible refine KC.out.mono ?_);rintro e w4 ⟨b',c',K',rfl,hN4,hK4,hb4,hc4,hw4⟩)
 have hd4:=(HD3.out.low hw4).low ((Below.refl w4.heap.size w4).drew)
 have hm4:=(HM3.out.low hw4).low ((Below.refl w4.heap.size w4).drew)
 obtain ⟨w5,hput,hd5,hf5,hg5⟩:=hd4.put HN6.out HI.out ⟨#[120]⟩
 have s3:=hd4.bx.cells.2.1
 have s4:=hd4.bx.cells.2.2.1
 have s5:=hd4.md.cell HN6.out
 have s6:=(hd4.md.nd n HN6.out).c3
 have KU:Hid (∀ nq,Calls Tryz.prog 12 #[.pointer (some ⟨bm,0,none⟩)] (w5.drewN nq) fun e w'=>e=.returned (.int .i64 (totM (updK Ks n (addS (Ks n) i)) 6:Nat))/\w5.drewN nq=w'):=Lib.hid fun nq=>used_of (hd5.low (below_drewN' (Below.refl w5.heap.size w5) nq)).md
 have s7:=hd5.md.cl
 have HQ:Hid (∀ nq,(w5.drewN nq).cell? ⟨bf,0,none⟩=some p/\Calls Tryz.prog 19 #[p,.bool true] (w5.drewN nq) fun e w'=>e=.returned (.int .i64 0)/\PsE w0 d p S kk bf bm lim w'):=Lib.hid fun nq=>by
  have hb:=below_drewN' (Below.refl w5.heap.size w5) nq
  exact ⟨(hd5.low hb).sm.fs.cell,(hd5.low hb).keepE ((hf5 hm4).low hb) HR3.out⟩
 obtain ⟨T,hT⟩:∃ T,T=totM (updK Ks n (addS (Ks n) i)) 6:=⟨_,rfl⟩
 rw[<- hT] at KU
 have hTl:decide (lim<(T:Int))=false:=decide_eq_false (by have:=HLE.out;rw[hT];omega)
 clear hT hd5 hm3 hr3 hm4 hf5
 clear hd4 hN4
 go_still_tail 12,(by kernel_rfl)
 go_wp2
 go_quiet ((go_at_call 12;exact quiet_back (KU.out _)))
 obtain ⟨cf5,hE⟩:=HQ.out nq
 have KE3:=Lib.hid hE
 go_wp2_with (first
  |(go_at_call 19;(with_reducible refine KE3.out.mono ?_);rintro e w4 ⟨rfl,h4⟩))
 go_ret
 exact ⟨by trivial,h4⟩
set_option maxHeartbeats 2000000 in
theorem do14_map9 (h:Ps w0 w P d p X S N O kk F bf bm bn bp Ks lim) (h1:2<=n) (h2:n<=5) (h4:i<=137) (hle:¬ (totM (updK Ks n (addS (Ks n) i)) 6:Int)<=lim):
 Calls Tryz.prog 11 #[.pointer (some ⟨bm,0,none⟩),.pointer (some ⟨bf,0,none⟩),.agg #[.int .i64 1,.int .i64 n,.int .i64 i,.int .i64 vo]] w fun e w'=>e=.returned (.bool true)/\PsE w0 d p S kk bf bm lim w':=by
 obtain ⟨hf,hB⟩:=h.boxed 1 n i vo
 have mr:=Lib.hid h.mr
 have cf:=hf.cell
 obtain ⟨xb,hxb⟩:∃ xb,xb=w.heap.size:=⟨_,rfl⟩
 rw[<- hxb] at hB
 have HXB:=Lib.hid hxb
 obtain ⟨w1,hw1⟩:∃ w1,w1=w.alloc (.cells #[.int .i64 1,.int .i64 n,.int .i64 i,.int .i64 vo] 45):=⟨_,rfl⟩
 have H1:=Lib.hid hw1.symm
 rw[<- hw1] at cf hB
 have KB:=Lib.hid hB
 have HN6:Hid (n<6):=Lib.hid (by omega)
 have HI:Hid (i<138):=Lib.hid (by omega)
 have HB:Hid (2<=n/\n<=5/\i<=137):=Lib.hid ⟨h1,h2,h4⟩
 have en:(n:Int)<6:=by omega
 have en0:(0:Int)<=(n:Int):=by omega
 have x_90a2d7:decide (2<=(n:Int))=true:=decide_eq_true (by omega)
 have x_559d05:decide ((n:Int)<=5)=true:=decide_eq_true (by omega)
 have x_31299b:decide ((i:Int)<0)=false:=decide_eq_false (by omega)
 have x_1b9548:decide (137<(i:Int))=false:=decide_eq_false (by omega)
 have HLE:Hid (¬ (totM (updK Ks n (addS (Ks n) i)) 6:Int)<=lim):=Lib.hid hle
 have HIN:Hid ((i:Int) ∉ Ks n):=Lib.hid fun hin=>hle (by
  have h1:=totM_upd Ks (n:=n) (addS (Ks n) i) 6 (by omega)
  rw[usedN_congr (K:=Ks n) (K':=addS (Ks n) i) fun y=>by rw[addS_iff];exact ⟨fun e=>e.elim id fun e=>e ▸ hin,.inl⟩] at h1
  have:=mr.out.le
  omega)
 have HLT:Hid (∀ k,P k->k<w.heap.size):=Lib.hid h.sd.inv.lt
 clear h1 h2 h4 hle
 clear h hf hB hxb hw1
 go_enter Tryz.func11,Tryz.ntmps11
 go_upto_region 1 with (fail)
 rw[H1.out,<- HXB.out]
 go_upto_region 9 with (first
  |(go_at_call 14;refine KB.out.mono ?_;rintro e w2 ⟨rfl,P2,hd2,hm2⟩;obtain ⟨b0,b1,b2,b3⟩:=hd2.bx.cells;have cf2:=hd2.sm.fs.cell;have KS2:=Lib.hid (do_map_no hd2 hm2 mr.out (no:=(n:Int)) (io:=(i:Int)) (by have:=HB.out;omega) (by have:=HB.out;omega) (by omega) (by have:=HB.out;omega) (by rw[Int.toNat_natCast];exact HIN.out) (by rw[Int.toNat_natCast];exact HLE.out)))
  |(go_at_call 15;(with_reducible refine KS2.out.mono ?_);rintro e w3 ⟨rfl,P3,X3,hd3⟩;obtain ⟨d0,d1,d2,d3⟩:=hd3.bx.cells))
 have hb3:=(Below.refl w3.heap.size w3).drew
 have hd3d:=hd3.low hb3
 have s1:=hd3d.bx.cells.2.1
 have s2:=hd3d.md.cell HN6.out
 have KC:=Lib.hid (nCopy_of (hd3d.md.nd n HN6.out))
 have HD3:=Lib.hid hd3d
 clear d0 d1 d2 d3 hd3 hd3d hb3
 go_still_tail 7,(by kernel_rfl)
 go_upto_region 10 with (go_at_call 30;(with_reducible refine KC.out.mono ?_);rintro e w4 ⟨b',c',K',rfl,hN4,hK4,hb4,hc4,hw4⟩)
 have hd4:=(HD3.out.low hw4).low ((Below.refl w4.heap.size w4).drew)
 have hlt3:∀ k,P3 k->k<w3.drew.heap.size:=HD3.out.sm.inv.lt
 have hml3:∀ k,Mob bm bn bp k->k<w3.drew.heap.size:=fun k hk=>HD3.out.md.mlt hk
 have hsz3:w0.heap.size<=w3.drew.heap.size:=HD3.out.sm.sz
 obtain ⟨w5,hput,hd5,hf5,hg5⟩:=hd4.put HN6.out HI.out ⟨#[120]⟩
 have s3:=hd4.bx.cells.2.1
 have s4:=hd4.bx.cells.2.2.1
 have s5:=hd4.md.cell HN6.out
 have s6:=(hd4.md.nd n HN6.out).c3
 have KU:Hid (∀ nq,Calls Tryz.prog 12 #[.pointer (some ⟨bm,0,none⟩)] (w5.drewN nq) fun e w'=>e=.returned (.int .i64 (totM (updK Ks n (addS (Ks n) i)) 6:Nat))/\w5.drewN nq=w'):=Lib.hid fun nq=>used_of (hd5.low (below_drewN' (Below.refl w5.heap.size w5) nq)).md
 have s7:=hd5.md.cl
 have HQ:Hid (∀ nq,((w5.drewN nq).drew.cell? ⟨xb,1,none⟩=some (.int .i64 (n:Int))/\(w5.drewN nq).drew.cell? ⟨bm,n,none⟩=some (.pointer (some ⟨bn n,0,none⟩))/\(w5.drewN nq).drew.frozen? ⟨bm,n,none⟩=false/\((w5.drewN nq).setCell ⟨bm,n,none⟩ (.pointer (some ⟨b',0,none⟩))).drew.cell? ⟨bf,0,none⟩=some p)/\Calls Tryz.prog 19 #[p,.bool false] ((w5.drewN nq).setCell ⟨bm,n,none⟩ (.pointer (some ⟨b',0,none⟩))).drew fun e w'=>e=.returned (.int .i64 0)/\PsE w0 d p S kk bf bm lim w'):=Lib.hid fun nq=>by
  have hb:=below_drewN' (Below.refl w5.heap.size w5) nq
  have hd6:=hd5.low hb
  have hcm:∀ k,Mob bm bn bp k->c'≠k/\b'≠k:=fun k hk=>by have:=hml3 k hk;omega
  have hN5:NodeR w5 b' c' K':=hN4.keep (hg5.block b' hN4.lt.1 fun e=>(hcm _ (.inr ⟨n,HN6.out,.inr rfl⟩)).2 (Option.some.inj e)) (hg5.block c' hN4.lt.2 fun e=>(hcm _ (.inr ⟨n,HN6.out,.inr rfl⟩)).1 (Option.some.inj e))
  have hnode:=hd6.node HN6.out (hN5.low hb) ⟨fun hp=>by have:=hlt3 _ hp;omega,by omega⟩ ⟨fun hp=>by have:=hlt3 _ hp;omega,by omega⟩ fun j hj _=>(hcm _ (.inr ⟨j,hj,.inr rfl⟩)).1
  rw[updK_two] at hnode
  have hd7:=hnode.1.low ((Below.refl _ _).drew)
  exact ⟨⟨hd6.bx.cells.2.1,hd6.md.cell HN6.out,hd6.md.free n,hd7.sm.fs.cell⟩,hd7.undoE (mr.out.congr HN6.out hK4)⟩
 obtain ⟨T,hT⟩:∃ T,T=totM (updK Ks n (addS (Ks n) i)) 6:=⟨_,rfl⟩
 rw[<- hT] at KU
 have hTl:decide (lim<(T:Int))=true:=decide_eq_true (by have:=HLE.out;rw[hT];omega)
 clear hT hd5 hf5 hlt3 hml3 hsz3 hg5
 clear hd4 hN4
 go_still_tail 12,(by kernel_rfl)
 go_wp2
 go_quiet ((go_at_call 12;exact quiet_back (KU.out _)))
 obtain ⟨w6,hw6⟩:∃ w6,w6=w5.drewN nq:=⟨_,rfl⟩
 have hq6:=HQ.out nq
 rw[<- hw6] at hq6 |-
 clear hw6
 obtain ⟨⟨r1,r2,r3,r4⟩,hE⟩:=hq6
 have KE3:=Lib.hid hE
 go_wp2
 go_still_tail 7,(by kernel_rfl)
 go_wp2_with (first
  |(go_at_call 19;(with_reducible refine KE3.out.mono ?_);rintro e w4 ⟨rfl,h4⟩))
 go_ret
 exact ⟨by trivial,h4⟩
end
end Go.Proofs.YtaakepjgpnaecaaGreat
namespace Go.Proofs.YtaakepjgpnaecaaGreat
set_option maxRecDepth 100000
open Go.RowKit
theorem do14_of {w0 w:World}{P:Nat->Prop}{d p:Value}{X:XSt}{S:List Int}{N:List (List Int)}{O:List (Int × Int)}{kk:Nat}{F:Nat->List Int}{bf bm:Nat}{bn bp:Nat->Nat}{Ks:Nat->List Int}{lim:Int} (h:Ps w0 w P d p X S N O kk F bf bm bn bp Ks lim) (kd no io vo:Int) (hx:io<=9223372036854775807):
 Calls Tryz.prog 11 #[.pointer (some ⟨bm,0,none⟩),.pointer (some ⟨bf,0,none⟩),.agg #[.int .i64 kd,.int .i64 no,.int .i64 io,.int .i64 vo]] w fun e w'=>e=.returned (.bool true)/\PsE w0 d p S kk bf bm lim w':=by
 by_cases k1:kd=1
 · subst k1
   by_cases hi:2<=no/\no<=5/\0<=io/\io<=137
   · obtain ⟨n,rfl⟩:∃ n:Nat,no=n:=⟨no.toNat,by omega⟩
     obtain ⟨i,rfl⟩:∃ i:Nat,io=i:=⟨io.toNat,by omega⟩
     by_cases hl:(totM (updK Ks n (addS (Ks n) i)) 6:Int)<=lim
     · exact do14_map8 h rfl (by omega) (by omega) (by omega) hl
     · exact do14_map9 h (by omega) (by omega) (by omega) hl
   · by_cases h1:no=1
     · exact do14_map1 h h1
     · by_cases h2:no<2
       · exact do14_map2 h h2 h1
       · by_cases h3:5<no
         · exact do14_map3 h h3
         · by_cases h4:io<0
           · exact do14_map4 h (by omega) (by omega) h4
           · exact do14_map5 h (by omega) (by omega) (by omega)
 · by_cases k2:kd=2
   · subst k2
     by_cases hi:2<=no/\no<=5/\0<=io
     · obtain ⟨n,rfl⟩:∃ n:Nat,no=n:=⟨no.toNat,by omega⟩
       obtain ⟨i,rfl⟩:∃ i:Nat,io=i:=⟨io.toNat,by omega⟩
       exact do14_cut9 h (by omega) (by omega) hx
     · by_cases h1:no=1
       · exact do14_cut1 h hx h1
       · by_cases h2:no<2
         · exact do14_cut2 h hx h2 h1
         · by_cases h3:5<no
           · exact do14_cut3 h hx h3
           · exact do14_cut4 h hx (by omega) (by omega) (by omega)
   · by_cases k3:kd=3
     · subst k3
       by_cases h1:no=1
       · exact do14_set1 h h1
       · by_cases h2:no<2
         · exact do14_set2 h h2 h1
         · by_cases h3:5<no
           · exact do14_set3 h h3
           · by_cases h4:io<0
             · exact do14_set4 h (by omega) (by omega) h4
             · by_cases h5:137<io
               · exact do14_set5 h (by omega) (by omega) h5
               · by_cases h6:vo<1
                 · exact do14_set6 h (by omega) (by omega) (by omega) (by omega) h6
                 · by_cases h7:768<=vo
                   · exact do14_set7 h (by omega) (by omega) (by omega) (by omega) h7
                   · obtain ⟨n,rfl⟩:∃ n:Nat,no=n:=⟨no.toNat,by omega⟩
                     obtain ⟨i,rfl⟩:∃ i:Nat,io=i:=⟨io.toNat,by omega⟩
                     by_cases hin:(i:Int)∈Ks n
                     · exact do14_set9 h (by omega) (by omega) (by omega) (by omega) (by omega) hin
                     · exact do14_set8 h (by omega) (by omega) (by omega) (by omega) (by omega) hin
     · exact do14_look h k1 k2 k3
end Go.Proofs.YtaakepjgpnaecaaGreat
