/- What the law rests on: part 13. -/
import Derived.Test.YtedabomlfcghoaaGreatKF12
set_option linter.unusedVariables false
namespace Go.Proofs.YtedabomlfcghoaaGreat
set_option maxRecDepth 100000
open Go.RowKit
theorem sWithin5_any (n lo hi:Int) (w:World):Calls Tryz.prog 212 #[.int .i64 n,.int .i64 lo,.int .i64 hi] w fun e w'=>e=.returned (.bool (decide (lo<=n/\n<=hi)))/\w=w':=by
 by_cases h1:lo<=n
 · by_cases h2:n<=hi
   · rw[decide_eq_true ⟨h1,h2⟩]
     go_enter Tryz.func212,Tryz.ntmps212
     go_wp2
     go_ret
     exact ⟨rfl,rfl⟩
   · rw[decide_eq_false (fun h=>h2 h.2)]
     go_enter Tryz.func212,Tryz.ntmps212
     go_wp2
     go_ret
     exact ⟨rfl,rfl⟩
 · rw[decide_eq_false (fun h=>h1 h.1)]
   go_enter Tryz.func212,Tryz.ntmps212
   go_wp2
   go_ret
   exact ⟨rfl,rfl⟩
theorem sWithin5_is (n lo hi:Int) (B:Bool) (h:decide (lo<=n/\n<=hi)=B) (w:World):Calls Tryz.prog 212 #[.int .i64 n,.int .i64 lo,.int .i64 hi] w fun e w'=>e=.returned (.bool B)/\w=w':=by
 rw[<- h];exact sWithin5_any n lo hi w
theorem gFormed_is (b:Int) (hm:b<=9223372036854775807) (B:Bool) (h:frmB b=B) (w:World):Calls Tryz.prog 52 #[.int .i64 b] w fun e w'=>e=.returned (.bool B)/\w=w':=by
 rw[<- h];exact gFormed_any b hm w
theorem rFormed_is (b:Int) (hm:b<=9223372036854775807) (B:Bool) (h:frmB b=B) (w:World):Calls Tryz.prog 50 #[.int .i64 b] w fun e w'=>e=.returned (.bool B)/\w=w':=by
 rw[<- h];exact rFormed_any b hm w
theorem frm_div {b:Int} (h:frmB b=true):0<=b/\b<=768/\grsI b=b / 64:=by
 have:=of_decide_eq_true h
 exact ⟨by omega,by omega,by unfold grsI;rw[if_pos h]⟩
theorem gGroups_is (b:Int) (h:frmB b=true) (G:Int) (hG:G=b / 64) (w:World):Calls Tryz.prog 54 #[.int .i64 b] w fun e w'=>e=.returned (.int .i64 G)/\w=w':=by
 have:=gGroups_any b (by have:=frm_div h;omega) w
 rw[(frm_div h).2.2] at this
 rw[hG];exact this
def st1g (G1 G2 b tg cu io ba:Int):Bool:=frmB tg && (decide (b<tg) && (decide (G1<=cu/\cu<=G2) && ((io==0) && (ba==0))))
def st1r (b tg cu io ba:Int):Bool:=frmB tg && (decide (b<tg) && (decide (b / 64<=cu) && (decide (cu<=tg / 64) && ((io==0) && (ba==0)))))
def st3r (b tg cu io ba:Int):Bool:=(tg==0) && (decide (1<=io) && (decide (io<=47) && (decide (0<=ba) && (decide (ba<=b) && (decide (0<=cu) && (decide (cu<=b)))))))
theorem st1r_eq (b tg cu io ba:Int):st1r b tg cu io ba=st1 b tg cu io ba:=by simp[st1r,st1,Bool.decide_and,Bool.and_assoc]
theorem st3r_eq (b tg cu io ba:Int):st3r b tg cu io ba=st3 b tg cu io ba:=by simp[st3r,st3,Bool.decide_and,Bool.and_assoc]
set_option maxHeartbeats 2000000 in
theorem sState0 (b tg cu io ba t0 t1 t2 t3 t4 t5:Int) (w:World)  :Calls Tryz.prog 203 #[.agg #[.int .i64 b,.int .i64 0,.int .i64 tg,.int .i64 cu,.int .i64 io,.int .i64 ba,.int .i64 t0,.int .i64 t1,.int .i64 t2,.int .i64 t3,.int .i64 t4,.int .i64 t5]] w fun e w'=>e=.returned (.bool (st0 tg cu io ba))/\Below w.heap.size w w':=by
 have HR:st0 tg cu io ba=((tg==0) && ((cu==0) && ((io==0) && ((ba==0))))):=rfl
 rcases h0:(tg==0) with _|_
 · replace HR:st0 tg cu io ba=false:=by rw[HR,h0] <;> rfl
   rw[HR];clear HR
   go_enter Tryz.func203,Tryz.ntmps203
   go_wp2
   go_ret
   exact ⟨rfl,below_box _ _⟩
 · rw[h0,Bool.true_and] at HR
   rcases h1:(cu==0) with _|_
   · replace HR:st0 tg cu io ba=false:=by rw[HR,h1] <;> rfl
     rw[HR];clear HR
     go_enter Tryz.func203,Tryz.ntmps203
     go_wp2
     go_ret
     exact ⟨rfl,below_box _ _⟩
   · rw[h1,Bool.true_and] at HR
     rcases h2:(io==0) with _|_
     · replace HR:st0 tg cu io ba=false:=by rw[HR,h2] <;> rfl
       rw[HR];clear HR
       go_enter Tryz.func203,Tryz.ntmps203
       go_wp2
       go_ret
       exact ⟨rfl,below_box _ _⟩
     · rw[h2,Bool.true_and] at HR
       rcases h3:(ba==0) with _|_
       · replace HR:st0 tg cu io ba=false:=by rw[HR,h3] <;> rfl
         rw[HR];clear HR
         go_enter Tryz.func203,Tryz.ntmps203
         go_wp2
         go_ret
         exact ⟨rfl,below_box _ _⟩
       · rw[h3] at HR
         rw[HR];clear HR
         go_enter Tryz.func203,Tryz.ntmps203
         go_wp2
         go_ret
         exact ⟨rfl,below_box _ _⟩
set_option maxHeartbeats 2000000 in
theorem rState0 (b tg cu io ba t0 t1 t2 t3 t4 t5:Int) (w:World)  :Calls Tryz.prog 170 #[.agg #[.int .i64 b,.int .i64 0,.int .i64 tg,.int .i64 cu,.int .i64 io,.int .i64 ba,.int .i64 t0,.int .i64 t1,.int .i64 t2,.int .i64 t3,.int .i64 t4,.int .i64 t5]] w fun e w'=>e=.returned (.bool (st0 tg cu io ba))/\Below w.heap.size w w':=by
 have HR:st0 tg cu io ba=((tg==0) && ((cu==0) && ((io==0) && ((ba==0))))):=rfl
 rcases h0:(tg==0) with _|_
 · replace HR:st0 tg cu io ba=false:=by rw[HR,h0] <;> rfl
   rw[HR];clear HR
   go_enter Tryz.func170,Tryz.ntmps170
   go_wp2
   go_ret
   exact ⟨rfl,below_box _ _⟩
 · rw[h0,Bool.true_and] at HR
   rcases h1:(cu==0) with _|_
   · replace HR:st0 tg cu io ba=false:=by rw[HR,h1] <;> rfl
     rw[HR];clear HR
     go_enter Tryz.func170,Tryz.ntmps170
     go_wp2
     go_ret
     exact ⟨rfl,below_box _ _⟩
   · rw[h1,Bool.true_and] at HR
     rcases h2:(io==0) with _|_
     · replace HR:st0 tg cu io ba=false:=by rw[HR,h2] <;> rfl
       rw[HR];clear HR
       go_enter Tryz.func170,Tryz.ntmps170
       go_wp2
       go_ret
       exact ⟨rfl,below_box _ _⟩
     · rw[h2,Bool.true_and] at HR
       rcases h3:(ba==0) with _|_
       · replace HR:st0 tg cu io ba=false:=by rw[HR,h3] <;> rfl
         rw[HR];clear HR
         go_enter Tryz.func170,Tryz.ntmps170
         go_wp2
         go_ret
         exact ⟨rfl,below_box _ _⟩
       · rw[h3] at HR
         rw[HR];clear HR
         go_enter Tryz.func170,Tryz.ntmps170
         go_wp2
         go_ret
         exact ⟨rfl,below_box _ _⟩
set_option maxHeartbeats 2000000 in
theorem sState1g (b tg cu io ba t0 t1 t2 t3 t4 t5:Int) (w:World) (hb:frmB b=true) (hm:tg<=9223372036854775807) (G1 G2:Int) (hG1:G1=b / 64) (hG2:G2=tg / 64):Calls Tryz.prog 203 #[.agg #[.int .i64 b,.int .i64 1,.int .i64 tg,.int .i64 cu,.int .i64 io,.int .i64 ba,.int .i64 t0,.int .i64 t1,.int .i64 t2,.int .i64 t3,.int .i64 t4,.int .i64 t5]] w fun e w'=>e=.returned (.bool (st1g G1 G2 b tg cu io ba))/\Below w.heap.size w w':=by
 have HR:st1g G1 G2 b tg cu io ba=((frmB tg) && ((decide (b<tg)) && ((decide (G1<=cu/\cu<=G2)) && ((io==0) && ((ba==0)))))):=rfl
 rcases h0:(frmB tg) with _|_
 · replace HR:st1g G1 G2 b tg cu io ba=false:=by rw[HR,h0] <;> rfl
   rw[HR];clear HR
   have K0:=Lib.hid (gFormed_is tg hm false h0)
   clear h0
   clear hb hm hG1 hG2
   go_enter Tryz.func203,Tryz.ntmps203
   go_wp2
   have hB:=below_box w (.cells #[.int .i64 b,.int .i64 1,.int .i64 tg,.int .i64 cu,.int .i64 io,.int .i64 ba,.int .i64 t0,.int .i64 t1,.int .i64 t2,.int .i64 t3,.int .i64 t4,.int .i64 t5] 118)
   have hh:=heap_alloc_new w (.cells #[.int .i64 b,.int .i64 1,.int .i64 tg,.int .i64 cu,.int .i64 io,.int .i64 ba,.int .i64 t0,.int .i64 t1,.int .i64 t2,.int .i64 t3,.int .i64 t4,.int .i64 t5] 118)
   generalize w.alloc (.cells #[.int .i64 b,.int .i64 1,.int .i64 tg,.int .i64 cu,.int .i64 io,.int .i64 ba,.int .i64 t0,.int .i64 t1,.int .i64 t2,.int .i64 t3,.int .i64 t4,.int .i64 t5] 118)=W1 at hB hh |-
   have c0:W1.cell? ⟨w.heap.size,0,none⟩=some (.int .i64 b):=by rw[cell_of_row _ _ _ _ _ _ hh];rfl
   have c2:W1.cell? ⟨w.heap.size,2,none⟩=some (.int .i64 tg):=by rw[cell_of_row _ _ _ _ _ _ hh];rfl
   have c3:W1.cell? ⟨w.heap.size,3,none⟩=some (.int .i64 cu):=by rw[cell_of_row _ _ _ _ _ _ hh];rfl
   have c4:W1.cell? ⟨w.heap.size,4,none⟩=some (.int .i64 io):=by rw[cell_of_row _ _ _ _ _ _ hh];rfl
   have c5:W1.cell? ⟨w.heap.size,5,none⟩=some (.int .i64 ba):=by rw[cell_of_row _ _ _ _ _ _ hh];rfl
   clear hh
   go_quiet (first|(go_at_call 52;with_reducible refine quiet_back (K0.out _)))
   go_wp2
   go_ret
   exact ⟨rfl,below_drewN' hB _⟩
 · rw[h0,Bool.true_and] at HR
   have hK2:=Lib.hid (gGroups_is tg h0 G2 hG2)
   have K0:=Lib.hid (gFormed_is tg hm true h0)
   clear h0
   rcases h1:(decide (b<tg)) with _|_
   · replace HR:st1g G1 G2 b tg cu io ba=false:=by rw[HR,h1] <;> rfl
     rw[HR];clear HR
     have g1:¬ b<tg:=of_decide_eq_false h1
     clear hb hm hG1 hG2
     go_enter Tryz.func203,Tryz.ntmps203
     go_wp2
     have hB:=below_box w (.cells #[.int .i64 b,.int .i64 1,.int .i64 tg,.int .i64 cu,.int .i64 io,.int .i64 ba,.int .i64 t0,.int .i64 t1,.int .i64 t2,.int .i64 t3,.int .i64 t4,.int .i64 t5] 118)
     have hh:=heap_alloc_new w (.cells #[.int .i64 b,.int .i64 1,.int .i64 tg,.int .i64 cu,.int .i64 io,.int .i64 ba,.int .i64 t0,.int .i64 t1,.int .i64 t2,.int .i64 t3,.int .i64 t4,.int .i64 t5] 118)
     generalize w.alloc (.cells #[.int .i64 b,.int .i64 1,.int .i64 tg,.int .i64 cu,.int .i64 io,.int .i64 ba,.int .i64 t0,.int .i64 t1,.int .i64 t2,.int .i64 t3,.int .i64 t4,.int .i64 t5] 118)=W1 at hB hh |-
     have c0:W1.cell? ⟨w.heap.size,0,none⟩=some (.int .i64 b):=by rw[cell_of_row _ _ _ _ _ _ hh];rfl
     have c2:W1.cell? ⟨w.heap.size,2,none⟩=some (.int .i64 tg):=by rw[cell_of_row _ _ _ _ _ _ hh];rfl
     have c3:W1.cell? ⟨w.heap.size,3,none⟩=some (.int .i64 cu):=by rw[cell_of_row _ _ _ _ _ _ hh];rfl
     have c4:W1.cell? ⟨w.heap.size,4,none⟩=some (.int .i64 io):=by rw[cell_of_row _ _ _ _ _ _ hh];rfl
     have c5:W1.cell? ⟨w.heap.size,5,none⟩=some (.int .i64 ba):=by rw[cell_of_row _ _ _ _ _ _ hh];rfl
     clear hh
     go_quiet (first|(go_at_call 52;with_reducible refine quiet_back (K0.out _)))
     go_wp2
     go_ret
     exact ⟨rfl,below_drewN' hB _⟩
   · rw[h1,Bool.true_and] at HR
     have g1:b<tg:=of_decide_eq_true h1
     rcases h2:(decide (G1<=cu/\cu<=G2)) with _|_
     · replace HR:st1g G1 G2 b tg cu io ba=false:=by rw[HR,h2] <;> rfl
       rw[HR];clear HR
       have K1:=Lib.hid (gGroups_is b hb G1 hG1)
       have K2:=Lib.hid (hK2.out)
       have K3:=Lib.hid (sWithin5_is cu (G1) (G2) false h2)
       clear h2
       clear hb hm hG1 hG2
       go_enter Tryz.func203,Tryz.ntmps203
       go_wp2
       have hB:=below_box w (.cells #[.int .i64 b,.int .i64 1,.int .i64 tg,.int .i64 cu,.int .i64 io,.int .i64 ba,.int .i64 t0,.int .i64 t1,.int .i64 t2,.int .i64 t3,.int .i64 t4,.int .i64 t5] 118)
       have hh:=heap_alloc_new w (.cells #[.int .i64 b,.int .i64 1,.int .i64 tg,.int .i64 cu,.int .i64 io,.int .i64 ba,.int .i64 t0,.int .i64 t1,.int .i64 t2,.int .i64 t3,.int .i64 t4,.int .i64 t5] 118)
       generalize w.alloc (.cells #[.int .i64 b,.int .i64 1,.int .i64 tg,.int .i64 cu,.int .i64 io,.int .i64 ba,.int .i64 t0,.int .i64 t1,.int .i64 t2,.int .i64 t3,.int .i64 t4,.int .i64 t5] 118)=W1 at hB hh |-
       have c0:W1.cell? ⟨w.heap.size,0,none⟩=some (.int .i64 b):=by rw[cell_of_row _ _ _ _ _ _ hh];rfl
       have c2:W1.cell? ⟨w.heap.size,2,none⟩=some (.int .i64 tg):=by rw[cell_of_row _ _ _ _ _ _ hh];rfl
       have c3:W1.cell? ⟨w.heap.size,3,none⟩=some (.int .i64 cu):=by rw[cell_of_row _ _ _ _ _ _ hh];rfl
       have c4:W1.cell? ⟨w.heap.size,4,none⟩=some (.int .i64 io):=by rw[cell_of_row _ _ _ _ _ _ hh];rfl
       have c5:W1.cell? ⟨w.heap.size,5,none⟩=some (.int .i64 ba):=by rw[cell_of_row _ _ _ _ _ _ hh];rfl
       clear hh
       go_quiet (first|(go_at_call 52;with_reducible refine quiet_back (K0.out _))|(go_at_call 54;with_reducible refine quiet_back (K1.out _))|(go_at_call 54;with_reducible refine quiet_back (K2.out _))|(go_at_call 212;with_reducible refine quiet_back (K3.out _)))
       go_wp2
       go_ret
       exact ⟨rfl,below_drewN' hB _⟩
     · rw[h2,Bool.true_and] at HR
       have K1:=Lib.hid (gGroups_is b hb G1 hG1)
       have K2:=Lib.hid (hK2.out)
       have K3:=Lib.hid (sWithin5_is cu (G1) (G2) true h2)
       clear h2
       rcases h3:(io==0) with _|_
       · replace HR:st1g G1 G2 b tg cu io ba=false:=by rw[HR,h3] <;> rfl
         rw[HR];clear HR
         clear hb hm hG1 hG2
         go_enter Tryz.func203,Tryz.ntmps203
         go_wp2
         have hB:=below_box w (.cells #[.int .i64 b,.int .i64 1,.int .i64 tg,.int .i64 cu,.int .i64 io,.int .i64 ba,.int .i64 t0,.int .i64 t1,.int .i64 t2,.int .i64 t3,.int .i64 t4,.int .i64 t5] 118)
         have hh:=heap_alloc_new w (.cells #[.int .i64 b,.int .i64 1,.int .i64 tg,.int .i64 cu,.int .i64 io,.int .i64 ba,.int .i64 t0,.int .i64 t1,.int .i64 t2,.int .i64 t3,.int .i64 t4,.int .i64 t5] 118)
         generalize w.alloc (.cells #[.int .i64 b,.int .i64 1,.int .i64 tg,.int .i64 cu,.int .i64 io,.int .i64 ba,.int .i64 t0,.int .i64 t1,.int .i64 t2,.int .i64 t3,.int .i64 t4,.int .i64 t5] 118)=W1 at hB hh |-
         have c0:W1.cell? ⟨w.heap.size,0,none⟩=some (.int .i64 b):=by rw[cell_of_row _ _ _ _ _ _ hh];rfl
         have c2:W1.cell? ⟨w.heap.size,2,none⟩=some (.int .i64 tg):=by rw[cell_of_row _ _ _ _ _ _ hh];rfl
         have c3:W1.cell? ⟨w.heap.size,3,none⟩=some (.int .i64 cu):=by rw[cell_of_row _ _ _ _ _ _ hh];rfl
         have c4:W1.cell? ⟨w.heap.size,4,none⟩=some (.int .i64 io):=by rw[cell_of_row _ _ _ _ _ _ hh];rfl
         have c5:W1.cell? ⟨w.heap.size,5,none⟩=some (.int .i64 ba):=by rw[cell_of_row _ _ _ _ _ _ hh];rfl
         clear hh
         go_quiet (first|(go_at_call 52;with_reducible refine quiet_back (K0.out _))|(go_at_call 54;with_reducible refine quiet_back (K1.out _))|(go_at_call 54;with_reducible refine quiet_back (K2.out _))|(go_at_call 212;with_reducible refine quiet_back (K3.out _)))
         go_wp2
         go_ret
         exact ⟨rfl,below_drewN' hB _⟩
       · rw[h3,Bool.true_and] at HR
         rcases h4:(ba==0) with _|_
         · replace HR:st1g G1 G2 b tg cu io ba=false:=by rw[HR,h4] <;> rfl
           rw[HR];clear HR
           clear hb hm hG1 hG2
           go_enter Tryz.func203,Tryz.ntmps203
           go_wp2
           have hB:=below_box w (.cells #[.int .i64 b,.int .i64 1,.int .i64 tg,.int .i64 cu,.int .i64 io,.int .i64 ba,.int .i64 t0,.int .i64 t1,.int .i64 t2,.int .i64 t3,.int .i64 t4,.int .i64 t5] 118)
           have hh:=heap_alloc_new w (.cells #[.int .i64 b,.int .i64 1,.int .i64 tg,.int .i64 cu,.int .i64 io,.int .i64 ba,.int .i64 t0,.int .i64 t1,.int .i64 t2,.int .i64 t3,.int .i64 t4,.int .i64 t5] 118)
           generalize w.alloc (.cells #[.int .i64 b,.int .i64 1,.int .i64 tg,.int .i64 cu,.int .i64 io,.int .i64 ba,.int .i64 t0,.int .i64 t1,.int .i64 t2,.int .i64 t3,.int .i64 t4,.int .i64 t5] 118)=W1 at hB hh |-
           have c0:W1.cell? ⟨w.heap.size,0,none⟩=some (.int .i64 b):=by rw[cell_of_row _ _ _ _ _ _ hh];rfl
           have c2:W1.cell? ⟨w.heap.size,2,none⟩=some (.int .i64 tg):=by rw[cell_of_row _ _ _ _ _ _ hh];rfl
           have c3:W1.cell? ⟨w.heap.size,3,none⟩=some (.int .i64 cu):=by rw[cell_of_row _ _ _ _ _ _ hh];rfl
           have c4:W1.cell? ⟨w.heap.size,4,none⟩=some (.int .i64 io):=by rw[cell_of_row _ _ _ _ _ _ hh];rfl
           have c5:W1.cell? ⟨w.heap.size,5,none⟩=some (.int .i64 ba):=by rw[cell_of_row _ _ _ _ _ _ hh];rfl
           clear hh
           go_quiet (first|(go_at_call 52;with_reducible refine quiet_back (K0.out _))|(go_at_call 54;with_reducible refine quiet_back (K1.out _))|(go_at_call 54;with_reducible refine quiet_back (K2.out _))|(go_at_call 212;with_reducible refine quiet_back (K3.out _)))
           go_wp2
           go_ret
           exact ⟨rfl,below_drewN' hB _⟩
         · rw[h4] at HR
           rw[HR];clear HR
           clear hb hm hG1 hG2
           go_enter Tryz.func203,Tryz.ntmps203
           go_wp2
           have hB:=below_box w (.cells #[.int .i64 b,.int .i64 1,.int .i64 tg,.int .i64 cu,.int .i64 io,.int .i64 ba,.int .i64 t0,.int .i64 t1,.int .i64 t2,.int .i64 t3,.int .i64 t4,.int .i64 t5] 118)
           have hh:=heap_alloc_new w (.cells #[.int .i64 b,.int .i64 1,.int .i64 tg,.int .i64 cu,.int .i64 io,.int .i64 ba,.int .i64 t0,.int .i64 t1,.int .i64 t2,.int .i64 t3,.int .i64 t4,.int .i64 t5] 118)
           generalize w.alloc (.cells #[.int .i64 b,.int .i64 1,.int .i64 tg,.int .i64 cu,.int .i64 io,.int .i64 ba,.int .i64 t0,.int .i64 t1,.int .i64 t2,.int .i64 t3,.int .i64 t4,.int .i64 t5] 118)=W1 at hB hh |-
           have c0:W1.cell? ⟨w.heap.size,0,none⟩=some (.int .i64 b):=by rw[cell_of_row _ _ _ _ _ _ hh];rfl
           have c2:W1.cell? ⟨w.heap.size,2,none⟩=some (.int .i64 tg):=by rw[cell_of_row _ _ _ _ _ _ hh];rfl
           have c3:W1.cell? ⟨w.heap.size,3,none⟩=some (.int .i64 cu):=by rw[cell_of_row _ _ _ _ _ _ hh];rfl
           have c4:W1.cell? ⟨w.heap.size,4,none⟩=some (.int .i64 io):=by rw[cell_of_row _ _ _ _ _ _ hh];rfl
           have c5:W1.cell? ⟨w.heap.size,5,none⟩=some (.int .i64 ba):=by rw[cell_of_row _ _ _ _ _ _ hh];rfl
           clear hh
           go_quiet (first|(go_at_call 52;with_reducible refine quiet_back (K0.out _))|(go_at_call 54;with_reducible refine quiet_back (K1.out _))|(go_at_call 54;with_reducible refine quiet_back (K2.out _))|(go_at_call 212;with_reducible refine quiet_back (K3.out _)))
           go_wp2
           go_ret
           exact ⟨rfl,below_drewN' hB _⟩
set_option maxHeartbeats 2000000 in
theorem sState2 (b tg cu io ba t0 t1 t2 t3 t4 t5:Int) (w:World) (hb:frmB b=true) (hm:tg<=9223372036854775807):Calls Tryz.prog 203 #[.agg #[.int .i64 b,.int .i64 2,.int .i64 tg,.int .i64 cu,.int .i64 io,.int .i64 ba,.int .i64 t0,.int .i64 t1,.int .i64 t2,.int .i64 t3,.int .i64 t4,.int .i64 t5]] w fun e w'=>e=.returned (.bool (st2 b tg cu io ba))/\Below w.heap.size w w':=by
 have hb0:0<=b:=(frm_div hb).1
 have hb1:b<=768:=(frm_div hb).2.1
 have HR:st2 b tg cu io ba=((frmB tg) && ((decide (tg<b)) && ((cu==0) && ((io==0) && ((ba==0)))))):=rfl
 rcases h0:(frmB tg) with _|_
 · replace HR:st2 b tg cu io ba=false:=by rw[HR,h0] <;> rfl
   rw[HR];clear HR
   have K0:=Lib.hid (gFormed_is tg hm false h0)
   clear h0
   clear hb hm
   go_enter Tryz.func203,Tryz.ntmps203
   go_wp2_with (first|(go_at_call 52;with_reducible refine (K0.out _).mono ?_;rintro e w' ⟨rfl,rfl⟩))
   go_ret
   exact ⟨rfl,below_box _ _⟩
 · rw[h0,Bool.true_and] at HR
   have ht0:0<=tg:=(frm_div h0).1
   have ht1:tg<=768:=(frm_div h0).2.1
   have K0:=Lib.hid (gFormed_is tg hm true h0)
   clear h0
   rcases h1:(decide (tg<b)) with _|_
   · replace HR:st2 b tg cu io ba=false:=by rw[HR,h1] <;> rfl
     rw[HR];clear HR
     have g1:¬ tg<b:=of_decide_eq_false h1
     clear hb hm
     go_enter Tryz.func203,Tryz.ntmps203
     go_wp2_with (first|(go_at_call 52;with_reducible refine (K0.out _).mono ?_;rintro e w' ⟨rfl,rfl⟩))
     go_ret
     exact ⟨rfl,below_box _ _⟩
   · rw[h1,Bool.true_and] at HR
     have g1:tg<b:=of_decide_eq_true h1
     rcases h2:(cu==0) with _|_
     · replace HR:st2 b tg cu io ba=false:=by rw[HR,h2] <;> rfl
       rw[HR];clear HR
       clear hb hm
       go_enter Tryz.func203,Tryz.ntmps203
       go_wp2_with (first|(go_at_call 52;with_reducible refine (K0.out _).mono ?_;rintro e w' ⟨rfl,rfl⟩))
       go_ret
       exact ⟨rfl,below_box _ _⟩
     · rw[h2,Bool.true_and] at HR
       rcases h3:(io==0) with _|_
       · replace HR:st2 b tg cu io ba=false:=by rw[HR,h3] <;> rfl
         rw[HR];clear HR
         clear hb hm
         go_enter Tryz.func203,Tryz.ntmps203
         go_wp2_with (first|(go_at_call 52;with_reducible refine (K0.out _).mono ?_;rintro e w' ⟨rfl,rfl⟩))
         go_ret
         exact ⟨rfl,below_box _ _⟩
       · rw[h3,Bool.true_and] at HR
         rcases h4:(ba==0) with _|_
         · replace HR:st2 b tg cu io ba=false:=by rw[HR,h4] <;> rfl
           rw[HR];clear HR
           clear hb hm
           go_enter Tryz.func203,Tryz.ntmps203
           go_wp2_with (first|(go_at_call 52;with_reducible refine (K0.out _).mono ?_;rintro e w' ⟨rfl,rfl⟩))
           go_ret
           exact ⟨rfl,below_box _ _⟩
         · rw[h4] at HR
           rw[HR];clear HR
           clear hb hm
           go_enter Tryz.func203,Tryz.ntmps203
           go_wp2_with (first|(go_at_call 52;with_reducible refine (K0.out _).mono ?_;rintro e w' ⟨rfl,rfl⟩))
           go_ret
           exact ⟨rfl,below_box _ _⟩
set_option maxHeartbeats 2000000 in
theorem sState3 (b tg cu io ba t0 t1 t2 t3 t4 t5:Int) (w:World) (hb:frmB b=true) (hm:tg<=9223372036854775807):Calls Tryz.prog 203 #[.agg #[.int .i64 b,.int .i64 3,.int .i64 tg,.int .i64 cu,.int .i64 io,.int .i64 ba,.int .i64 t0,.int .i64 t1,.int .i64 t2,.int .i64 t3,.int .i64 t4,.int .i64 t5]] w fun e w'=>e=.returned (.bool (st3 b tg cu io ba))/\Below w.heap.size w w':=by
 have HR:st3 b tg cu io ba=((tg==0) && ((decide (1<=io/\io<=47)) && ((decide (0<=ba/\ba<=b)) && ((decide (0<=cu/\cu<=b)))))):=rfl
 rcases h0:(tg==0) with _|_
 · replace HR:st3 b tg cu io ba=false:=by rw[HR,h0] <;> rfl
   rw[HR];clear HR
   clear hb hm
   go_enter Tryz.func203,Tryz.ntmps203
   go_wp2
   go_ret
   exact ⟨rfl,below_box _ _⟩
 · rw[h0,Bool.true_and] at HR
   rcases h1:(decide (1<=io/\io<=47)) with _|_
   · replace HR:st3 b tg cu io ba=false:=by rw[HR,h1] <;> rfl
     rw[HR];clear HR
     have K0:=Lib.hid (sWithin5_is io (1) (47) false h1)
     clear h1
     clear hb hm
     go_enter Tryz.func203,Tryz.ntmps203
     go_wp2_with (first|(go_at_call 212;with_reducible refine (K0.out _).mono ?_;rintro e w' ⟨rfl,rfl⟩))
     go_ret
     exact ⟨rfl,below_box _ _⟩
   · rw[h1,Bool.true_and] at HR
     have K0:=Lib.hid (sWithin5_is io (1) (47) true h1)
     clear h1
     rcases h2:(decide (0<=ba/\ba<=b)) with _|_
     · replace HR:st3 b tg cu io ba=false:=by rw[HR,h2] <;> rfl
       rw[HR];clear HR
       have K1:=Lib.hid (sWithin5_is ba (0) (b) false h2)
       clear h2
       clear hb hm
       go_enter Tryz.func203,Tryz.ntmps203
       go_wp2_with (first|(go_at_call 212;with_reducible refine (K0.out _).mono ?_;rintro e w' ⟨rfl,rfl⟩)|(go_at_call 212;with_reducible refine (K1.out _).mono ?_;rintro e w' ⟨rfl,rfl⟩))
       go_ret
       exact ⟨rfl,below_box _ _⟩
     · rw[h2,Bool.true_and] at HR
       have K1:=Lib.hid (sWithin5_is ba (0) (b) true h2)
       clear h2
       rcases h3:(decide (0<=cu/\cu<=b)) with _|_
       · replace HR:st3 b tg cu io ba=false:=by rw[HR,h3] <;> rfl
         rw[HR];clear HR
         have K2:=Lib.hid (sWithin5_is cu (0) (b) false h3)
         clear h3
         clear hb hm
         go_enter Tryz.func203,Tryz.ntmps203
         go_wp2_with (first|(go_at_call 212;with_reducible refine (K0.out _).mono ?_;rintro e w' ⟨rfl,rfl⟩)|(go_at_call 212;with_reducible refine (K1.out _).mono ?_;rintro e w' ⟨rfl,rfl⟩)|(go_at_call 212;with_reducible refine (K2.out _).mono ?_;rintro e w' ⟨rfl,rfl⟩))
         go_ret
         exact ⟨rfl,below_box _ _⟩
       · rw[h3] at HR
         have K2:=Lib.hid (sWithin5_is cu (0) (b) true h3)
         clear h3
         rw[HR];clear HR
         clear hb hm
         go_enter Tryz.func203,Tryz.ntmps203
         go_wp2_with (first|(go_at_call 212;with_reducible refine (K0.out _).mono ?_;rintro e w' ⟨rfl,rfl⟩)|(go_at_call 212;with_reducible refine (K1.out _).mono ?_;rintro e w' ⟨rfl,rfl⟩)|(go_at_call 212;with_reducible refine (K2.out _).mono ?_;rintro e w' ⟨rfl,rfl⟩))
         go_ret
         exact ⟨rfl,below_box _ _⟩
set_option maxHeartbeats 2000000 in
theorem rState1 (b tg cu io ba t0 t1 t2 t3 t4 t5:Int) (w:World) (hb:frmB b=true) (hm:tg<=9223372036854775807):Calls Tryz.prog 170 #[.agg #[.int .i64 b,.int .i64 1,.int .i64 tg,.int .i64 cu,.int .i64 io,.int .i64 ba,.int .i64 t0,.int .i64 t1,.int .i64 t2,.int .i64 t3,.int .i64 t4,.int .i64 t5]] w fun e w'=>e=.returned (.bool (st1r b tg cu io ba))/\Below w.heap.size w w':=by
 have hb0:0<=b:=(frm_div hb).1
 have hb1:b<=768:=(frm_div hb).2.1
 have HR:st1r b tg cu io ba=((frmB tg) && ((decide (b<tg)) && ((decide (b / 64<=cu)) && ((decide (cu<=tg / 64)) && ((io==0) && ((ba==0))))))):=rfl
 rcases h0:(frmB tg) with _|_
 · replace HR:st1r b tg cu io ba=false:=by rw[HR,h0] <;> rfl
   rw[HR];clear HR
   have K0:=Lib.hid (rFormed_is tg hm false h0)
   clear h0
   clear hb hm
   go_enter Tryz.func170,Tryz.ntmps170
   go_wp2_with (first|(go_at_call 50;with_reducible refine (K0.out _).mono ?_;rintro e w' ⟨rfl,rfl⟩))
   go_ret
   exact ⟨rfl,below_box _ _⟩
 · rw[h0,Bool.true_and] at HR
   have ht0:0<=tg:=(frm_div h0).1
   have ht1:tg<=768:=(frm_div h0).2.1
   have K0:=Lib.hid (rFormed_is tg hm true h0)
   clear h0
   rcases h1:(decide (b<tg)) with _|_
   · replace HR:st1r b tg cu io ba=false:=by rw[HR,h1] <;> rfl
     rw[HR];clear HR
     have g1:¬ b<tg:=of_decide_eq_false h1
     clear hb hm
     go_enter Tryz.func170,Tryz.ntmps170
     go_wp2_with (first|(go_at_call 50;with_reducible refine (K0.out _).mono ?_;rintro e w' ⟨rfl,rfl⟩))
     go_ret
     exact ⟨rfl,below_box _ _⟩
   · rw[h1,Bool.true_and] at HR
     have g1:b<tg:=of_decide_eq_true h1
     rcases h2:(decide (b / 64<=cu)) with _|_
     · replace HR:st1r b tg cu io ba=false:=by rw[HR,h2] <;> rfl
       rw[HR];clear HR
       have g2:¬ b / 64<=cu:=of_decide_eq_false h2
       clear hb hm
       go_enter Tryz.func170,Tryz.ntmps170
       go_wp2_with (first|(go_at_call 50;with_reducible refine (K0.out _).mono ?_;rintro e w' ⟨rfl,rfl⟩))
       go_ret
       exact ⟨rfl,below_box _ _⟩
     · rw[h2,Bool.true_and] at HR
       have g2:b / 64<=cu:=of_decide_eq_true h2
       rcases h3:(decide (cu<=tg / 64)) with _|_
       · replace HR:st1r b tg cu io ba=false:=by rw[HR,h3] <;> rfl
         rw[HR];clear HR
         have g3:¬ cu<=tg / 64:=of_decide_eq_false h3
         clear hb hm
         go_enter Tryz.func170,Tryz.ntmps170
         go_wp2_with (first|(go_at_call 50;with_reducible refine (K0.out _).mono ?_;rintro e w' ⟨rfl,rfl⟩))
         go_ret
         exact ⟨rfl,below_box _ _⟩
       · rw[h3,Bool.true_and] at HR
         have g3:cu<=tg / 64:=of_decide_eq_true h3
         rcases h4:(io==0) with _|_
         · replace HR:st1r b tg cu io ba=false:=by rw[HR,h4] <;> rfl
           rw[HR];clear HR
           clear hb hm
           go_enter Tryz.func170,Tryz.ntmps170
           go_wp2_with (first|(go_at_call 50;with_reducible refine (K0.out _).mono ?_;rintro e w' ⟨rfl,rfl⟩))
           go_ret
           exact ⟨rfl,below_box _ _⟩
         · rw[h4,Bool.true_and] at HR
           rcases h5:(ba==0) with _|_
           · replace HR:st1r b tg cu io ba=false:=by rw[HR,h5] <;> rfl
             rw[HR];clear HR
             clear hb hm
             go_enter Tryz.func170,Tryz.ntmps170
             go_wp2_with (first|(go_at_call 50;with_reducible refine (K0.out _).mono ?_;rintro e w' ⟨rfl,rfl⟩))
             go_ret
             exact ⟨rfl,below_box _ _⟩
           · rw[h5] at HR
             rw[HR];clear HR
             clear hb hm
             go_enter Tryz.func170,Tryz.ntmps170
             go_wp2_with (first|(go_at_call 50;with_reducible refine (K0.out _).mono ?_;rintro e w' ⟨rfl,rfl⟩))
             go_ret
             exact ⟨rfl,below_box _ _⟩
set_option maxHeartbeats 2000000 in
theorem rState2 (b tg cu io ba t0 t1 t2 t3 t4 t5:Int) (w:World) (hb:frmB b=true) (hm:tg<=9223372036854775807):Calls Tryz.prog 170 #[.agg #[.int .i64 b,.int .i64 2,.int .i64 tg,.int .i64 cu,.int .i64 io,.int .i64 ba,.int .i64 t0,.int .i64 t1,.int .i64 t2,.int .i64 t3,.int .i64 t4,.int .i64 t5]] w fun e w'=>e=.returned (.bool (st2 b tg cu io ba))/\Below w.heap.size w w':=by
 have hb0:0<=b:=(frm_div hb).1
 have hb1:b<=768:=(frm_div hb).2.1
 have HR:st2 b tg cu io ba=((frmB tg) && ((decide (tg<b)) && ((cu==0) && ((io==0) && ((ba==0)))))):=rfl
 rcases h0:(frmB tg) with _|_
 · replace HR:st2 b tg cu io ba=false:=by rw[HR,h0] <;> rfl
   rw[HR];clear HR
   have K0:=Lib.hid (rFormed_is tg hm false h0)
   clear h0
   clear hb hm
   go_enter Tryz.func170,Tryz.ntmps170
   go_wp2_with (first|(go_at_call 50;with_reducible refine (K0.out _).mono ?_;rintro e w' ⟨rfl,rfl⟩))
   go_ret
   exact ⟨rfl,below_box _ _⟩
 · rw[h0,Bool.true_and] at HR
   have ht0:0<=tg:=(frm_div h0).1
   have ht1:tg<=768:=(frm_div h0).2.1
   have K0:=Lib.hid (rFormed_is tg hm true h0)
   clear h0
   rcases h1:(decide (tg<b)) with _|_
   · replace HR:st2 b tg cu io ba=false:=by rw[HR,h1] <;> rfl
     rw[HR];clear HR
     have g1:¬ tg<b:=of_decide_eq_false h1
     clear hb hm
     go_enter Tryz.func170,Tryz.ntmps170
     go_wp2_with (first|(go_at_call 50;with_reducible refine (K0.out _).mono ?_;rintro e w' ⟨rfl,rfl⟩))
     go_ret
     exact ⟨rfl,below_box _ _⟩
   · rw[h1,Bool.true_and] at HR
     have g1:tg<b:=of_decide_eq_true h1
     rcases h2:(cu==0) with _|_
     · replace HR:st2 b tg cu io ba=false:=by rw[HR,h2] <;> rfl
       rw[HR];clear HR
       clear hb hm
       go_enter Tryz.func170,Tryz.ntmps170
       go_wp2_with (first|(go_at_call 50;with_reducible refine (K0.out _).mono ?_;rintro e w' ⟨rfl,rfl⟩))
       go_ret
       exact ⟨rfl,below_box _ _⟩
     · rw[h2,Bool.true_and] at HR
       rcases h3:(io==0) with _|_
       · replace HR:st2 b tg cu io ba=false:=by rw[HR,h3] <;> rfl
         rw[HR];clear HR
         clear hb hm
         go_enter Tryz.func170,Tryz.ntmps170
         go_wp2_with (first|(go_at_call 50;with_reducible refine (K0.out _).mono ?_;rintro e w' ⟨rfl,rfl⟩))
         go_ret
         exact ⟨rfl,below_box _ _⟩
       · rw[h3,Bool.true_and] at HR
         rcases h4:(ba==0) with _|_
         · replace HR:st2 b tg cu io ba=false:=by rw[HR,h4] <;> rfl
           rw[HR];clear HR
           clear hb hm
           go_enter Tryz.func170,Tryz.ntmps170
           go_wp2_with (first|(go_at_call 50;with_reducible refine (K0.out _).mono ?_;rintro e w' ⟨rfl,rfl⟩))
           go_ret
           exact ⟨rfl,below_box _ _⟩
         · rw[h4] at HR
           rw[HR];clear HR
           clear hb hm
           go_enter Tryz.func170,Tryz.ntmps170
           go_wp2_with (first|(go_at_call 50;with_reducible refine (K0.out _).mono ?_;rintro e w' ⟨rfl,rfl⟩))
           go_ret
           exact ⟨rfl,below_box _ _⟩
set_option maxHeartbeats 2000000 in
theorem rState3 (b tg cu io ba t0 t1 t2 t3 t4 t5:Int) (w:World) (hb:frmB b=true) (hm:tg<=9223372036854775807):Calls Tryz.prog 170 #[.agg #[.int .i64 b,.int .i64 3,.int .i64 tg,.int .i64 cu,.int .i64 io,.int .i64 ba,.int .i64 t0,.int .i64 t1,.int .i64 t2,.int .i64 t3,.int .i64 t4,.int .i64 t5]] w fun e w'=>e=.returned (.bool (st3r b tg cu io ba))/\Below w.heap.size w w':=by
 have hb0:0<=b:=(frm_div hb).1
 have hb1:b<=768:=(frm_div hb).2.1
 have HR:st3r b tg cu io ba=((tg==0) && ((decide (1<=io)) && ((decide (io<=47)) && ((decide (0<=ba)) && ((decide (ba<=b)) && ((decide (0<=cu)) && ((decide (cu<=b))))))))):=rfl
 rcases h0:(tg==0) with _|_
 · replace HR:st3r b tg cu io ba=false:=by rw[HR,h0] <;> rfl
   rw[HR];clear HR
   clear hb hm
   go_enter Tryz.func170,Tryz.ntmps170
   go_wp2
   go_ret
   exact ⟨rfl,below_box _ _⟩
 · rw[h0,Bool.true_and] at HR
   rcases h1:(decide (1<=io)) with _|_
   · replace HR:st3r b tg cu io ba=false:=by rw[HR,h1] <;> rfl
     rw[HR];clear HR
     have g1:¬ 1<=io:=of_decide_eq_false h1
     clear hb hm
     go_enter Tryz.func170,Tryz.ntmps170
     go_wp2
     go_ret
     exact ⟨rfl,below_box _ _⟩
   · rw[h1,Bool.true_and] at HR
     have g1:1<=io:=of_decide_eq_true h1
     rcases h2:(decide (io<=47)) with _|_
     · replace HR:st3r b tg cu io ba=false:=by rw[HR,h2] <;> rfl
       rw[HR];clear HR
       have g2:¬ io<=47:=of_decide_eq_false h2
       clear hb hm
       go_enter Tryz.func170,Tryz.ntmps170
       go_wp2
       go_ret
       exact ⟨rfl,below_box _ _⟩
     · rw[h2,Bool.true_and] at HR
       have g2:io<=47:=of_decide_eq_true h2
       rcases h3:(decide (0<=ba)) with _|_
       · replace HR:st3r b tg cu io ba=false:=by rw[HR,h3] <;> rfl
         rw[HR];clear HR
         have g3:¬ 0<=ba:=of_decide_eq_false h3
         clear hb hm
         go_enter Tryz.func170,Tryz.ntmps170
         go_wp2
         go_ret
         exact ⟨rfl,below_box _ _⟩
       · rw[h3,Bool.true_and] at HR
         have g3:0<=ba:=of_decide_eq_true h3
         rcases h4:(decide (ba<=b)) with _|_
         · replace HR:st3r b tg cu io ba=false:=by rw[HR,h4] <;> rfl
           rw[HR];clear HR
           have g4:¬ ba<=b:=of_decide_eq_false h4
           clear hb hm
           go_enter Tryz.func170,Tryz.ntmps170
           go_wp2
           go_ret
           exact ⟨rfl,below_box _ _⟩
         · rw[h4,Bool.true_and] at HR
           have g4:ba<=b:=of_decide_eq_true h4
           rcases h5:(decide (0<=cu)) with _|_
           · replace HR:st3r b tg cu io ba=false:=by rw[HR,h5] <;> rfl
             rw[HR];clear HR
             have g5:¬ 0<=cu:=of_decide_eq_false h5
             clear hb hm
             go_enter Tryz.func170,Tryz.ntmps170
             go_wp2
             go_ret
             exact ⟨rfl,below_box _ _⟩
           · rw[h5,Bool.true_and] at HR
             have g5:0<=cu:=of_decide_eq_true h5
             rcases h6:(decide (cu<=b)) with _|_
             · replace HR:st3r b tg cu io ba=false:=by rw[HR,h6] <;> rfl
               rw[HR];clear HR
               have g6:¬ cu<=b:=of_decide_eq_false h6
               clear hb hm
               go_enter Tryz.func170,Tryz.ntmps170
               go_wp2
               go_ret
               exact ⟨rfl,below_box _ _⟩
             · rw[h6] at HR
               have g6:cu<=b:=of_decide_eq_true h6
               rw[HR];clear HR
               clear hb hm
               go_enter Tryz.func170,Tryz.ntmps170
               go_wp2
               go_ret
               exact ⟨rfl,below_box _ _⟩
theorem sStateN (st:Int) (b tg cu io ba t0 t1 t2 t3 t4 t5:Int) (w:World) (h0:st≠0) (h1:st≠1) (h2:st≠2) (h3:st≠3):Calls Tryz.prog 203 #[.agg #[.int .i64 b,.int .i64 st,.int .i64 tg,.int .i64 cu,.int .i64 io,.int .i64 ba,.int .i64 t0,.int .i64 t1,.int .i64 t2,.int .i64 t3,.int .i64 t4,.int .i64 t5]] w fun e w'=>e=.returned (.bool false)/\Below w.heap.size w w':=by
 have e0:(st==0)=false:=by simp[h0]
 have e1:(st==1)=false:=by simp[h1]
 have e2:(st==2)=false:=by simp[h2]
 have e3:(st==3)=false:=by simp[h3]
 clear h0 h1 h2 h3
 go_enter Tryz.func203,Tryz.ntmps203
 go_wp2
 go_ret
 exact ⟨rfl,below_box _ _⟩
theorem rStateN (st:Int) (b tg cu io ba t0 t1 t2 t3 t4 t5:Int) (w:World) (h0:st≠0) (h1:st≠1) (h2:st≠2) (h3:st≠3):Calls Tryz.prog 170 #[.agg #[.int .i64 b,.int .i64 st,.int .i64 tg,.int .i64 cu,.int .i64 io,.int .i64 ba,.int .i64 t0,.int .i64 t1,.int .i64 t2,.int .i64 t3,.int .i64 t4,.int .i64 t5]] w fun e w'=>e=.returned (.bool false)/\Below w.heap.size w w':=by
 have e0:(st==0)=false:=by simp[h0]
 have e1:(st==1)=false:=by simp[h1]
 have e2:(st==2)=false:=by simp[h2]
 have e3:(st==3)=false:=by simp[h3]
 clear h0 h1 h2 h3
 go_enter Tryz.func170,Tryz.ntmps170
 go_wp2
 go_ret
 exact ⟨rfl,below_box _ _⟩
def supV (L:List Int):Value:=.agg (L.map (Value.int .i64)).toArray
def supO (L:List Int) (T:TypeId):Obj:=.cells (L.map (Value.int .i64)).toArray T (0,0)
theorem sup_cell {W:World}{g:Nat}{L:List Int}{T:TypeId} (h:W.heap[g]? =some (supO L T)) (k:Nat) (hk:k<L.length):W.cell? ⟨g,k,none⟩=some (.int .i64 (num L k)):=by
 rw[cell_of_row _ _ _ _ _ _ h]
 simp[num,List.getD_eq_getElem?_getD,hk]
def Top (L:List Int):Prop:=∀ i,num L i<=9223372036854775807
theorem infoInt:(Tryz.prog.info? 3).map (fun i=>(i.zero,i.size,i.bytes))=some (some (.int .i64 0),1,8):=by kernel_rfl
theorem arr6_len:Tryz.prog.arrayLen 116=6:=by kernel_rfl
theorem arr6_elem:Tryz.prog.elem 116=3:=by kernel_rfl
theorem run_slice_arr6 (W:World) (a:Addr) (j:Nat) (hj:j<=6):(Instr.sliceAt 116 (.pointer (some a)) none (some (.int .i64 (j:Int))) none).run Tryz.prog W=.ok (.slice (some a) j 6) W:=by
 obtain ⟨i,h2,h3,h4,h5⟩:=info_parts infoInt
 rw[run_sliceAt_array_h W 116 a (by rw[arr6_len,arr6_elem];exact Tryz.underlying116) .i64 (j:Int) (by omega) (by rw[arr6_len];omega),arr6_len,arr6_elem]
 obtain ⟨a1,a2,a3⟩:=a
 simp[sizeOf,typeInfo,h2,h4,slicedAt,Addr.add]
theorem sTable_of {L:List Int} (hL:L.length=12) (hT:Top L) (hb0:0<=num L 0) (hb1:num L 0<=768) (w:World):
 Calls Tryz.prog 204 #[supV L] w fun e w'=>e=.returned (.bool (frmTS L))/\Below w.heap.size w w':=by
 have hob:=below_box w (supO L 118)
 have hh:=heap_alloc_new w (supO L 118)
 have hcel:=fun k hk=>sup_cell hh k hk
 obtain ⟨W1,hW1⟩:∃ W1,W1=w.alloc (supO L 118):=⟨_,rfl⟩
 rw[<- hW1] at hob hcel
 have HC:=Lib.hid hcel
 have HW1:=Lib.hid hW1
 have HTO:=Lib.hid hT
 clear hcel hh hT
 match L,hL with
 |[b,st,tg,cu,io,ba,t0,t1,t2,t3,t4,t5],_=>
  obtain ⟨L,hLL⟩:∃ L,L=[b,st,tg,cu,io,ba,t0,t1,t2,t3,t4,t5]:=⟨_,rfl⟩
  rw[<- hLL] at HC HW1 HTO
  have HL:=Lib.hid hLL
  have eb:num L 0=b:=by rw[hLL];rfl
  have hW2:w.alloc (.cells #[.int .i64 b,.int .i64 st,.int .i64 tg,.int .i64 cu,.int .i64 io,.int .i64 ba,.int .i64 t0,.int .i64 t1,.int .i64 t2,.int .i64 t3,.int .i64 t4,.int .i64 t5] 118)=W1:=by
   rw[hW1];rfl
  show Calls Tryz.prog 204 #[.agg #[.int .i64 b,.int .i64 st,.int .i64 tg,.int .i64 cu,.int .i64 io,.int .i64 ba,.int .i64 t0,.int .i64 t1,.int .i64 t2,.int .i64 t3,.int .i64 t4,.int .i64 t5]] w fun e w'=>e=.returned (.bool (frmTS [b,st,tg,cu,io,ba,t0,t1,t2,t3,t4,t5]))/\Below w.heap.size w w'
  rw[<- hLL]
  have H2:=Lib.hid hW2
  change 0<=b at hb0
  change b<=768 at hb1
  clear hLL hW1 hW2
  go_enter Tryz.func204,Tryz.ntmps204
  go_wp2
  rw[H2.out]
  have hidx:∀ j:Nat,j<6->(Instr.index 116 (.agg #[Value.int .i64 t0,.int .i64 t1,.int .i64 t2,.int .i64 t3,.int .i64 t4,.int .i64 t5]) (.int .i64 (j:Int))).run Tryz.prog W1=.ok (.int .i64 (num L (6+j))) W1:=by
   intro j hj
   rw[HL.out]
   have:j=0\/j=1\/j=2\/j=3\/j=4\/j=5:=by omega
   rcases this with rfl|rfl|rfl|rfl|rfl|rfl <;> simp[Instr.index,run_underlying Tryz.underlying116,asIntOf,go_sem,num]
  have HIX:=Lib.hid hidx
  have hsl:∀ j:Nat,j<=6->_:=fun j=>run_slice_arr6 W1 ⟨w.heap.size,6,none⟩ j
  have HSL:=Lib.hid hsl
  clear hsl
  clear hidx
  go_loop [9] (fun i=>∃ j:Nat,j<=6/\i=.int .i64 j/\Hid (frmTo L j=true)) (fun i=>6-(intOf i).toNat)
  case atStart=>exact ⟨0,by omega,rfl,rfl⟩
  case round=>
   obtain ⟨j,hj,rfl,HF⟩:=hrel
   by_cases hlt:j<6
   · have hix:=HIX.out j hlt
     have hxm:=HTO.out (6+j)
     have hcb:=HC.out 0 (by rw[HL.out];simp)
     rw[eb] at hcb
     obtain ⟨x,hx⟩:∃ x,x=num L (6+j):=⟨_,rfl⟩
     rw[<- hx] at hix hxm
     have HX:=Lib.hid hx
     clear hx
     have hno:¬ okTS L j->frmTS L=false:=fun h=>by
      cases hf:frmTS L
      · rfl
      · exact absurd (frm_tab hf j hlt) h
     have HNO:=Lib.hid hno
     clear hno
     rcases h1:decide (0<=x/\x<=b-1) with _|_
     · have hr:=HNO.out (fun h=>of_decide_eq_false h1 (by rw[HX.out,<- eb];exact h.1))
       have K1:=Lib.hid (sWithin5_is x 0 (b-1) false h1)
       clear h1
       go_wp2_with (first|(go_at_call 212;with_reducible refine (K1.out _).mono ?_;rintro e w' ⟨rfl,rfl⟩))
       go_ret
       exact ⟨by first|rfl|(rw [hr];rfl),hob⟩
     · have K1:=Lib.hid (sWithin5_is x 0 (b-1) true h1)
       have HH1:=Lib.hid (of_decide_eq_true h1)
       clear h1
       rcases h2:fixB x with _|_
       · have K2:=Lib.hid (gFixed_is x hxm false h2)
         have HH2:=Lib.hid h2
         have hsl:=HSL.out j (by omega)
         clear h2
         go_wp2_with (first|(go_at_call 212;with_reducible refine (K1.out _).mono ?_;rintro e w' ⟨rfl,rfl⟩)|(go_at_call 146;with_reducible refine (K2.out _).mono ?_;rintro e w' ⟨rfl,rfl⟩))
         clear hix hsl hcb
         go_loop [27] (fun i=>∃ k:Nat,k<=j/\i=.int .i64 k/\Hid (∀ m,m<k->num L (6+m)≠num L (6+j))) (fun i=>j-(intOf i).toNat)
         case atStart=>exact ⟨0,by omega,rfl,fun m hm=>absurd hm (Nat.not_lt_zero _)⟩
         case round=>
          obtain ⟨k,hk,rfl,HK⟩:=hrel
          by_cases hlk:k<j
          · have hck:=HC.out (6+k) (by rw[HL.out];simp;omega)
            obtain ⟨y,hy⟩:∃ y,y=num L (6+k):=⟨_,rfl⟩
            rw[<- hy] at hck
            have HY:=Lib.hid hy
            clear hy
            have elk:(k:Int)<(j:Int):=by omega
            rcases h3:(y==x) with _|_
            · go_wp2
              go_round
              case rel=>
               refine ⟨k+1,by omega,by go_num,fun m hm=>?_⟩
               by_cases e:m=k
               · subst e;rw[<- HY.out,<- HX.out];intro e;rw[e] at h3;simp at h3
               · exact HK.out m (by omega)
              case measure=>simp[intOf];omega
            · have hr:=HNO.out (fun h=>h.2.2 k hlk (by rw[<- HY.out,<- HX.out];simpa using h3))
              go_wp2
              go_ret
              exact ⟨by first|rfl|(rw [hr];rfl),hob⟩
          · go_wp2
            go_round
            case rel=>
             obtain rfl:k=j:=by omega
             refine ⟨k+1,by omega,by go_num,?_⟩
             show frmTo L (k+1)=true
             exact frmTo_succ HF.out ⟨by rw[<- HX.out,eb];exact HH1.out,by rw[<- HX.out];exact HH2.out,HK.out⟩
            case measure=>simp[intOf];omega
       · have hr:=HNO.out (fun h=>by have:=h.2.1;rw[<- HX.out,h2] at this;cases this)
         have K2:=Lib.hid (gFixed_is x hxm true h2)
         clear h2
         go_wp2_with (first|(go_at_call 212;with_reducible refine (K1.out _).mono ?_;rintro e w' ⟨rfl,rfl⟩)|(go_at_call 146;with_reducible refine (K2.out _).mono ?_;rintro e w' ⟨rfl,rfl⟩))
         go_ret
         exact ⟨by first|rfl|(rw [hr];rfl),hob⟩
   · go_wp2
     go_ret
     obtain rfl:j=6:=by omega
     exact ⟨by rw[frmTS,HF.out];rfl,hob⟩
theorem sState_of {L:List Int} (hL:L.length=12) (hT:Top L) (hb:frmB (num L 0)=true) (w:World):
 Calls Tryz.prog 203 #[supV L] w fun e w'=>e=.returned (.bool (frmSt L))/\Below w.heap.size w w':=by
 match L,hL with
 |[b,st,tg,cu,io,ba,t0,t1,t2,t3,t4,t5],_=>
  have hm:tg<=9223372036854775807:=hT 2
  show Calls Tryz.prog 203 #[.agg #[.int .i64 b,.int .i64 st,.int .i64 tg,.int .i64 cu,.int .i64 io,.int .i64 ba,.int .i64 t0,.int .i64 t1,.int .i64 t2,.int .i64 t3,.int .i64 t4,.int .i64 t5]] w fun e w'=>e=.returned (.bool (stS b st tg cu io ba))/\Below w.heap.size w w'
  unfold stS
  by_cases h0:st=0
  · rw[if_pos h0,h0];exact sState0 b tg cu io ba t0 t1 t2 t3 t4 t5 w
  rw[if_neg h0]
  by_cases h1:st=1
  · rw[if_pos h1,h1];exact sState1g b tg cu io ba t0 t1 t2 t3 t4 t5 w hb hm _ _ rfl rfl
  rw[if_neg h1]
  by_cases h2:st=2
  · rw[if_pos h2,h2];exact sState2 b tg cu io ba t0 t1 t2 t3 t4 t5 w hb hm
  rw[if_neg h2]
  by_cases h3:st=3
  · rw[if_pos h3,h3];exact sState3 b tg cu io ba t0 t1 t2 t3 t4 t5 w hb hm
  rw[if_neg h3]
  exact sStateN st b tg cu io ba t0 t1 t2 t3 t4 t5 w h0 h1 h2 h3
theorem rStates_of {L:List Int} (hL:L.length=12) (hT:Top L) (hb:frmB (num L 0)=true) (w:World):
 Calls Tryz.prog 170 #[supV L] w fun e w'=>e=.returned (.bool (frmSt L))/\Below w.heap.size w w':=by
 match L,hL with
 |[b,st,tg,cu,io,ba,t0,t1,t2,t3,t4,t5],_=>
  have hm:tg<=9223372036854775807:=hT 2
  show Calls Tryz.prog 170 #[.agg #[.int .i64 b,.int .i64 st,.int .i64 tg,.int .i64 cu,.int .i64 io,.int .i64 ba,.int .i64 t0,.int .i64 t1,.int .i64 t2,.int .i64 t3,.int .i64 t4,.int .i64 t5]] w fun e w'=>e=.returned (.bool (stS b st tg cu io ba))/\Below w.heap.size w w'
  unfold stS
  by_cases h0:st=0
  · rw[if_pos h0,h0];exact rState0 b tg cu io ba t0 t1 t2 t3 t4 t5 w
  rw[if_neg h0]
  by_cases h1:st=1
  · rw[if_pos h1,h1,<- st1r_eq];exact rState1 b tg cu io ba t0 t1 t2 t3 t4 t5 w hb hm
  rw[if_neg h1]
  by_cases h2:st=2
  · rw[if_pos h2,h2];exact rState2 b tg cu io ba t0 t1 t2 t3 t4 t5 w hb hm
  rw[if_neg h2]
  by_cases h3:st=3
  · rw[if_pos h3,h3,<- st3r_eq];exact rState3 b tg cu io ba t0 t1 t2 t3 t4 t5 w hb hm
  rw[if_neg h3]
  exact rStateN st b tg cu io ba t0 t1 t2 t3 t4 t5 w h0 h1 h2 h3
theorem sState_is {L:List Int} (hL:L.length=12) (hT:Top L) (hb:frmB (num L 0)=true) (B:Bool) (h:frmSt L=B) (w:World):
 Calls Tryz.prog 203 #[supV L] w fun e w'=>e=.returned (.bool B)/\Below w.heap.size w w':=by rw[<- h];exact sState_of hL hT hb w
theorem rStates_is {L:List Int} (hL:L.length=12) (hT:Top L) (hb:frmB (num L 0)=true) (B:Bool) (h:frmSt L=B) (w:World):
 Calls Tryz.prog 170 #[supV L] w fun e w'=>e=.returned (.bool B)/\Below w.heap.size w w':=by rw[<- h];exact rStates_of hL hT hb w
theorem sTable_is {L:List Int} (hL:L.length=12) (hT:Top L) (hb:frmB (num L 0)=true) (B:Bool) (h:frmTS L=B) (w:World):
 Calls Tryz.prog 204 #[supV L] w fun e w'=>e=.returned (.bool B)/\Below w.heap.size w w':=by
 rw[<- h];exact sTable_of hL hT (frm_div hb).1 (frm_div hb).2.1 w
theorem sup_cells {W:World}{g:Nat}{T:TypeId}{b st tg cu io ba t0 t1 t2 t3 t4 t5:Int} (h:W.heap[g]? =some (supO [b,st,tg,cu,io,ba,t0,t1,t2,t3,t4,t5] T)):
 (W.cell? ⟨g,0,none⟩=some (.int .i64 b)/\W.cell? ⟨g,1,none⟩=some (.int .i64 st)/\W.cell? ⟨g,2,none⟩=some (.int .i64 tg)/\W.cell? ⟨g,3,none⟩=some (.int .i64 cu))/\
 (W.cell? ⟨g,4,none⟩=some (.int .i64 io)/\W.cell? ⟨g,5,none⟩=some (.int .i64 ba)/\W.cell? ⟨g,6,none⟩=some (.int .i64 t0)/\W.cell? ⟨g,7,none⟩=some (.int .i64 t1))/\
 W.cell? ⟨g,8,none⟩=some (.int .i64 t2)/\W.cell? ⟨g,9,none⟩=some (.int .i64 t3)/\W.cell? ⟨g,10,none⟩=some (.int .i64 t4)/\W.cell? ⟨g,11,none⟩=some (.int .i64 t5):=by
 refine ⟨⟨?_,?_,?_,?_⟩,⟨?_,?_,?_,?_⟩,?_,?_,?_,?_⟩ <;> (rw [cell_of_row _ _ _ _ _ _ h];rfl)
theorem sFormed_of {L:List Int} (hL:L.length=12) (hT:Top L) (w:World):
 Calls Tryz.prog 188 #[supV L] w fun e w'=>e=.returned (.bool (frmS L))/\Below w.heap.size w w':=by
 have h0:frmB (num L 0)=false\/frmB (num L 0)=true:=by cases frmB (num L 0) <;> simp
 have h1:frmSt L=false\/frmSt L=true:=by cases frmSt L <;> simp
 have h2:∃ B,frmTS L=B:=⟨_,rfl⟩
 have hL':=hL
 have hm:=hT 0
 have KF:∀ B,frmB (num L 0)=B->_:=fun B h=>gFormed_is (num L 0) hm B h
 have KS:∀ (hb:frmB (num L 0)=true) B,frmSt L=B->_:=fun hb B h=>sState_is hL hT hb B h
 have KT:∀ (hb:frmB (num L 0)=true) B,frmTS L=B->_:=fun hb B h=>sTable_is hL hT hb B h
 have hr:frmS L=(frmB (num L 0) && (frmSt L && frmTS L)):=rfl
 have hob:=below_box w (supO L 118)
 have hh:=heap_alloc_new w (supO L 118)
 obtain ⟨W1,hW1⟩:∃ W1,W1=w.alloc (supO L 118):=⟨_,rfl⟩
 rw[<- hW1] at hob hh
 match L,hL with
 |[b,st,tg,cu,io,ba,t0,t1,t2,t3,t4,t5],_=>
  have hW2:w.alloc (.cells #[.int .i64 b,.int .i64 st,.int .i64 tg,.int .i64 cu,.int .i64 io,.int .i64 ba,.int .i64 t0,.int .i64 t1,.int .i64 t2,.int .i64 t3,.int .i64 t4,.int .i64 t5] 118)=W1:=by
   rw[hW1];rfl
  have H2:=Lib.hid hW2
  have HH:=Lib.hid hh
  show Calls Tryz.prog 188 #[.agg #[.int .i64 b,.int .i64 st,.int .i64 tg,.int .i64 cu,.int .i64 io,.int .i64 ba,.int .i64 t0,.int .i64 t1,.int .i64 t2,.int .i64 t3,.int .i64 t4,.int .i64 t5]] w fun e w'=>e=.returned (.bool (frmS _))/\Below w.heap.size w w'
  rw[hr]
  change _<=_ at hm
  rcases h0 with h0|h0
  · rw[h0]
    have K0:Hid (∀ w,Calls Tryz.prog 52 #[.int .i64 b] w fun e w'=>e=.returned (.bool false)/\w=w'):=Lib.hid (KF _ h0)
    clear KF KS KT hr h0 h1 h2 hh hW1 hW2 hT hm hL'
    go_enter Tryz.func188,Tryz.ntmps188
    go_wp2_with (first|(go_at_call 52;with_reducible refine (K0.out _).mono ?_;rintro e w' ⟨rfl,rfl⟩))
    go_ret
    exact ⟨rfl,below_box _ _⟩
  · rw[h0,Bool.true_and]
    have K0:Hid (∀ w,Calls Tryz.prog 52 #[.int .i64 b] w fun e w'=>e=.returned (.bool true)/\w=w'):=Lib.hid (KF _ h0)
    rcases h1 with h1|h1
    · rw[h1,Bool.false_and]
      have K1:Hid (∀ w,Calls Tryz.prog 203 #[.agg #[.int .i64 b,.int .i64 st,.int .i64 tg,.int .i64 cu,.int .i64 io,.int .i64 ba,.int .i64 t0,.int .i64 t1,.int .i64 t2,.int .i64 t3,.int .i64 t4,.int .i64 t5]] w fun e w'=>e=.returned (.bool false)/\Below w.heap.size w w'):=Lib.hid (KS h0 _ h1)
      clear KF KS KT hr h0 h1 h2 hh hW1 hW2 hT hm hL'
      go_enter Tryz.func188,Tryz.ntmps188
      go_wp2_with (first
       |(go_at_call 52;with_reducible refine (K0.out _).mono ?_;rintro e w' ⟨rfl,rfl⟩)
       |(go_at_call 203;rw[H2.out];refine (K1.out _).mono ?_;rintro e w2 ⟨rfl,hb2⟩))
      go_ret
      exact ⟨rfl,hob.trans (hb2.mono hob.size)⟩
    · rw[h1,Bool.true_and]
      obtain ⟨B,h2⟩:=h2
      rw[h2]
      have K1:Hid (∀ w,Calls Tryz.prog 203 #[.agg #[.int .i64 b,.int .i64 st,.int .i64 tg,.int .i64 cu,.int .i64 io,.int .i64 ba,.int .i64 t0,.int .i64 t1,.int .i64 t2,.int .i64 t3,.int .i64 t4,.int .i64 t5]] w fun e w'=>e=.returned (.bool true)/\Below w.heap.size w w'):=Lib.hid (KS h0 _ h1)
      have K2:Hid (∀ w,Calls Tryz.prog 204 #[.agg #[.int .i64 b,.int .i64 st,.int .i64 tg,.int .i64 cu,.int .i64 io,.int .i64 ba,.int .i64 t0,.int .i64 t1,.int .i64 t2,.int .i64 t3,.int .i64 t4,.int .i64 t5]] w fun e w'=>e=.returned (.bool B)/\Below w.heap.size w w'):=Lib.hid (KT h0 _ h2)
      clear KF KS KT hr h0 h1 h2 hh hW1 hW2 hT hm hL'
      go_enter Tryz.func188,Tryz.ntmps188
      go_wp2_with (first
       |(go_at_call 52;with_reducible refine (K0.out _).mono ?_;rintro e w' ⟨rfl,rfl⟩)
       |(go_at_call 203;rw[H2.out];refine (K1.out _).mono ?_;rintro e w2 ⟨rfl,hb2⟩
         have hc:=sup_cells ((hb2.block _ (Array.getElem?_eq_some_iff.1 HH.out).1).trans HH.out))
       |(go_at_call 204;refine (K2.out _).mono ?_;rintro e w3 ⟨rfl,hb3⟩))
      go_ret
      exact ⟨rfl,(hob.trans (hb2.mono hob.size)).trans (hb3.mono (Nat.le_trans hob.size hb2.size))⟩
def fldL (g n:Nat):List Value:=(List.range n).flatMap fun i=>[.pointer (some ⟨g,i,none⟩),.int .i64 (wid i:Int)]
theorem fldL_succ (g n:Nat):fldL g (n+1)=fldL g n ++ [.pointer (some ⟨g,n,none⟩),.int .i64 (wid n:Int)]:=by
 simp[fldL,List.range_succ]
theorem fldL_length (g n:Nat):(fldL g n).length=n*2:=by
 induction n with
 |zero=>rfl
 |succ n ih=>rw[fldL_succ,List.length_append,ih];simp;omega
theorem fldL_get (g:Nat):∀ n i,i<n->(fldL g n)[i*2]? =some (.pointer (some ⟨g,i,none⟩))/\(fldL g n)[i*2+1]? =some (.int .i64 (wid i:Int))
 |0,i,h=>absurd h (Nat.not_lt_zero _)
 |n+1,i,h=>by
  have hl:=fldL_length g n
  rw[fldL_succ]
  by_cases e:i<n
  · have:=fldL_get g n i e
    rw[List.getElem?_append_left (by omega),List.getElem?_append_left (by omega)];exact this
  · obtain rfl:i=n:=by omega
    rw[List.getElem?_append_right (by omega),List.getElem?_append_right (by omega),hl]
    exact ⟨by simp,by rw[show i*2+1-i*2=1 by omega];rfl⟩
theorem infoF5:(Tryz.prog.info? 253).map (fun i=>(i.zero,i.size,i.bytes))=some (some (.agg #[.pointer none,.int .i64 0]),2,16):=by kernel_rfl
def Fld (w:World) (B g:Nat) (v:Value) (n:Nat):Prop:=w.ownsRow B 253 2 v n (fldL g n)
theorem Fld.below {w w':World}{B g:Nat}{v:Value}{n:Nat} (h:Fld w B g v n) (hb:Below w.heap.size w w'):Fld w' B g v n:=by
 refine ⟨h.1,?_⟩
 rcases h.2 with h| ⟨k,cap,cur,hv,hg,hh,r⟩
 · exact .inl h
 · exact .inr ⟨k,cap,cur,hv,hg,by rw[hb.block k (Array.getElem?_eq_some_iff.1 hh).1];exact hh,r⟩
theorem wpList_append_fld (w1:World) (g n:Nat) (hn:6<=n) (hn2:n<12) {ops:Array Oper}{rest:List Oper}{o:Oper}{a:Act}{Q:Exit->Act->World->Prop} (hgd:o.guard=none) (s y:Operand)
 (ho:o.op=.call { callee:=.builtin .append,args:=#[s,y],argTypes:=#[249,249] })
 (B:Nat) (v:Value) (hs:a.eval s=v) (hown:Fld w1 B g v n) (hy:a.eval y=.slice (some ⟨w1.heap.size,0,none⟩) 1 1) (hB:B<=w1.heap.size)
 (h:∀ v' w',Fld w' B g v' (n+1)->Below B w1 w'->wpList Tryz.prog ops Q rest (a.put o.dst v') w'):wpList Tryz.prog ops Q (o :: rest) a (w1.alloc (.cells #[.pointer (some ⟨g,n,none⟩),.int .i64 2] 253)):=by
 obtain ⟨i,h2,h3,h4,h5⟩:=info_parts infoF5
 have hbel:Below w1.heap.size w1 (w1.alloc (.cells #[.pointer (some ⟨g,n,none⟩),.int .i64 2] 253)):=below_box _ _
 have hnew:(w1.alloc (.cells #[.pointer (some ⟨g,n,none⟩),.int .i64 2] 253)).heap[w1.heap.size]? =some (.cells #[.pointer (some ⟨g,n,none⟩),.int .i64 2] 253 (0,0)):=heap_alloc_new w1 _
 have hw2:wid n=2:=if_neg (by omega)
 have hf:=hown.below hbel
 refine wpList_append_own _ hgd s y 249 ho B 253 i _ 2 16 Tryz.underlying249 h2 h3 h4 h5 rfl (by decide) v n _ hs hf ⟨w1.heap.size,0,none⟩ 1 1 [.pointer (some ⟨g,n,none⟩),.int .i64 2] hy rfl ?_ ?_ (by simp only[maxLen];omega) (by omega) (by simp;omega) fun v' w' h6 h7 _=>?_
 · intro j u hj
   have hj2:j<2:=by simpa using (List.getElem?_eq_some_iff.1 hj).1
   rw[Addr.add_lit,Nat.zero_add,cell_of_row _ _ _ _ _ _ hnew,<- hj]
   have:j=0\/j=1:=by omega
   rcases this with rfl|rfl <;> rfl
 · intro u hu
   simp at hu
   rcases hu with rfl|rfl <;> rfl
 · refine h v' w' ?_ ((hbel.mono hB).trans ((Below.refl _ _).grown h7 (by simp;omega) fun k hk=>(World.ownsRow.lt hf k hk).1))
   rw[Fld,fldL_succ,hw2];exact h6
set_option maxHeartbeats 1000000 in
theorem sFields_of (w:World) (g:Nat):Calls Tryz.prog 187 #[.pointer (some ⟨g,0,none⟩)] w fun e w'=>∃ v,e=.returned v/\Fld w' w.heap.size g v 12/\Below w.heap.size w w':=by
 go_enter Tryz.func187,Tryz.ntmps187
 go_wp2
 go_still_tail 24,(by kernel_rfl)
 go_wp2
 have h6:fldL g 6=[.pointer (some ⟨g,0,none⟩),.int .i64 2,.pointer (some ⟨g,1,none⟩),.int .i64 1,.pointer (some ⟨g,2,none⟩),.int .i64 2,.pointer (some ⟨g,3,none⟩),.int .i64 2,.pointer (some ⟨g,4,none⟩),.int .i64 2,.pointer (some ⟨g,5,none⟩),.int .i64 2]:=rfl
 rw[show (#[Value.pointer (some ⟨g,0,none⟩),.int .i64 2,.pointer (some ⟨g,1,none⟩),.int .i64 1,.pointer (some ⟨g,2,none⟩),.int .i64 2,.pointer (some ⟨g,3,none⟩),.int .i64 2,.pointer (some ⟨g,4,none⟩),.int .i64 2,.pointer (some ⟨g,5,none⟩),.int .i64 2]:Array Value)=(fldL g 6).toArray from rfl]
 have hh:=heap_alloc_new w (.cells (fldL g 6).toArray 253)
 have hb:=below_box w (.cells (fldL g 6).toArray 253)
 obtain ⟨W1,hW1⟩:∃ W1,W1=(w.alloc (.cells (fldL g 6).toArray 253)).drew:=⟨_,rfl⟩
 have hb1:Below w.heap.size w W1:=by rw[hW1];exact below_drewN' hb 1
 have hf1:Fld W1 w.heap.size g (.slice (some ⟨w.heap.size,0,none⟩) 6 6) 6:=by
  refine ⟨fldL_length g 6,.inr ⟨w.heap.size,6,_,rfl,Nat.le_refl _,by rw[hW1];exact hh,Nat.le_refl _,by decide,by simp[fldL_length],?_⟩⟩
  have:=fldL_length g 6
  rw[List.take_of_length_le (by simp[this])]
 rw[<- hW1]
 clear hh hb hW1 h6
 go_loopw [3,30] (fun u i wr=>∃ j:Nat,j<=6/\i=.int .i64 j/\Hid (Fld wr w.heap.size g u (6+j))/\Below w.heap.size w wr) (fun _ i _=>6-(intOf i).toNat)
 case atStart=>exact ⟨0,by omega,rfl,hf1,hb1⟩
 case round=>
  obtain ⟨j,hj,rfl,HF,hbr⟩:=hrel
  clear hf1 hb1
  by_cases hlt:j<6
  · have ej:(j:Int)<6:=by omega
    go_wp2_with (at_builtin;refine wpList_append_fld wr g (6+j) (by omega) (by omega) rfl _ _ rfl w.heap.size _ rfl HF.out rfl hbr.size ?_;intro v2 w2 hf2 hb2)
    go_roundw
    case rel=>exact ⟨j+1,by omega,by go_num,hf2,hbr.trans hb2⟩
    case measure=>simp[intOf];omega
  · go_wp2
    go_ret
    obtain rfl:j=6:=by omega
    exact ⟨_,rfl,HF.out,hbr⟩
theorem Fld.shape {w:World}{B g:Nat}{v:Value}{n:Nat} (h:Fld w B g v n) (hn:0<n):∃ gf cap,v=.slice (some ⟨gf,0,none⟩) n cap/\gf<w.heap.size/\B<=gf/\n<=cap/\
 ∀ j,j<n->w.cell? ⟨gf,j*2,none⟩=some (.pointer (some ⟨g,j,none⟩))/\w.cell? ⟨gf,j*2+1,none⟩=some (.int .i64 (wid j:Int)):=by
 rcases h.2 with ⟨_,h0⟩| ⟨gf,cap,cur,hv,hg,hh,hnc,hm,hs,ht⟩
 · omega
 · refine ⟨gf,cap,hv,(Array.getElem?_eq_some_iff.1 hh).1,hg,hnc,fun j hj=>?_⟩
   obtain ⟨h1,h2⟩:=fldL_get g n j hj
   rw[<- ht] at h1 h2
   rw[cell_of_row _ _ _ _ _ _ hh,cell_of_row _ _ _ _ _ _ hh]
   rw[List.getElem?_take] at h1 h2
   rw[if_pos (by omega)] at h1 h2
   exact ⟨by simpa using h1,by simpa using h2⟩
theorem wid_le (j:Nat):1<=wid j/\wid j<=2:=by unfold wid;split <;> omega
end Go.Proofs.YtedabomlfcghoaaGreat
