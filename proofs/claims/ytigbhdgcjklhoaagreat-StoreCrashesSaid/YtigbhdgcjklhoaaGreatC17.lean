/- The law's do: Put (over the bundle). -/
import Derived.OrdersHeld
import Derived.Deep.CutRange
import Derived.Test.YtigbhdgcjklhoaaGreatC13
import Derived.Test.YtigbhdgcjklhoaaGreatC16
namespace Go.Proofs.YtigbhdgcjklhoaaGreat
set_option maxRecDepth 100000
open Go.RowKit
set_option linter.unusedVariables false

section
variable {Inv : World → (Nat → Prop) → Value → Value → XSt → Prop} {Dead : World → (Nat → Prop) → Value → Value → DS → Prop} (S : Sto Inv Dead)
include S
theorem Sto.putR {w : World} {P : Nat → Prop} {d p : Value} {X : XSt} {r : RSt} (h : Inv w P d p X) (hR : Rel X r) {n : Int} {v : Value} {l : List Int} (hv : BSl w v l) (hn : -9223372036854775808 ≤ n ∧ n ≤ 9223372036854775807) (hj : OutJ n.toNat) :
    Calls Tryz.prog 19 #[p, .int .i64 n, v] w fun e w' => ∃ z P', e = .returned (.int .i64 z) ∧ Chg P P' w w' ∧ (∀ k, P' k → k < w'.heap.size) ∧ Out2 Inv Dead d p X r (rPut r n l) w' P' z := by
  obtain ⟨a1, a2⟩ := hR.put n l
  refine (S.put h hv hn hj).mono ?_
  rintro e w' ⟨rfl, P', hI, hc⟩
  refine ⟨_, P', rfl, hc, S.lt hI, .inl ⟨a1, _, hI, a2, ?_, ?_⟩⟩
  · unfold xPut; split
    · rfl
    · split
      · rfl
      · split <;> rfl
  · unfold xPut; split
    · rfl
    · split
      · rfl
      · split <;> rfl
omit S in
theorem rPut_len (r : RSt) (n : Int) (l : List Int) : (rPut r n l).2.sts = r.sts ∧ (rPut r n l).2.is = r.is := by
  unfold rPut; split
  · exact ⟨rfl, rfl⟩
  · split
    · exact ⟨rfl, rfl⟩
    · split <;> exact ⟨rfl, rfl⟩
set_option maxHeartbeats 4000000 in
theorem do11_put {w : World} {P M : Nat → Prop} {d p q vS : Value} {X : XSt} {r : RSt} (h : Inv w P d p X) (hr : RSo w P M q vS r) (hR : Rel X r) (n x : Int) (keep short : Bool) (hx : 0 ≤ x ∧ x ≤ 255) (hn : -9223372036854775808 ≤ n ∧ n ≤ 9223372036854775807) (hj : OutJ n.toNat) :
    Calls Tryz.prog 11 #[p, q, opV 2 n x keep short] w fun e w' => Alive Inv w P M d p q vS X r e w' ∨ Gone Dead w P M d p q vS X r e w' := by
  obtain ⟨u, hu⟩ : ∃ u, u = w.alloc (.cells #[.int .i64 2, .int .i64 n, .int .u8 x, .bool keep, .bool short] 37) := ⟨_, rfl⟩
  have hbx : Below w.heap.size w u := by rw [hu]; exact below_box w _
  have hnx : u.heap[w.heap.size]? = some (.cells #[.int .i64 2, .int .i64 n, .int .u8 x, .bool keep, .bool short] 37 (0, 0)) := by rw [hu]; exact heap_alloc_new w _
  have cells5 : ∀ W : World, W.heap[w.heap.size]? = some (.cells #[.int .i64 2, .int .i64 n, .int .u8 x, .bool keep, .bool short] 37 (0, 0)) → W.cell? ⟨w.heap.size, 0, none⟩ = some (.int .i64 2) ∧ W.cell? ⟨w.heap.size, 1, none⟩ = some (.int .i64 n) ∧ W.cell? ⟨w.heap.size, 2, none⟩ = some (.int .u8 x) ∧ W.cell? ⟨w.heap.size, 3, none⟩ = some (.bool keep) ∧ W.cell? ⟨w.heap.size, 4, none⟩ = some (.bool short) :=
    fun W hW => ⟨(box_cell hW rfl).1, (box_cell hW rfl).1, (box_cell hW rfl).1, (box_cell hW rfl).1, (box_cell hW rfl).1⟩
  obtain ⟨c0, _⟩ := cells5 u hnx
  have hbd : Below w.heap.size w u.drew := hbx.drew
  have hru : RSo u.drew P M q vS r := hr.below hbd
  have hIu : Inv u.drew P d p X := S.keep h hbd.size fun k hk => hbd.block k (S.lt h k hk)
  have hnP : ¬ P w.heap.size := fun e => Nat.lt_irrefl _ (S.lt h _ e)
  have hnM : ¬ M w.heap.size := fun e => Nat.lt_irrefl _ (hr.lt e)
  have hbl : w.heap.size < u.drew.heap.size := (Array.getElem?_eq_some_iff.1 hnx).1
  have s0 := cells5 u.drew hnx
  have KBL := Lib.hid (fun W => block11_of 2 n x keep short hx W)
  have KB := Lib.hid (fun (w1 : World) (v1 : Value) (hb : Below u.drew.heap.size u.drew w1) (hv : BSl w1 v1 (blkL x short)) => S.putR (S.keep hIu hb.size fun k hk => hb.block k (S.lt hIu k hk)) hR hv hn hj)
  have HA1 := Lib.hid (fun (w1 : World) (hb : Below u.drew.heap.size u.drew w1) => cells5 w1 ((hb.block _ hbl).trans hnx))
  -- behind the real Put
  have HA2 := Lib.hid (fun (w1 w2 : World) (P' : Nat → Prop) (hb : Below u.drew.heap.size u.drew w1) (hc : Chg P P' w1 w2) => cells5 w2 ((hc.keep _ (Nat.lt_of_lt_of_le hbl hb.size) hnP).1.trans ((hb.block _ hbl).trans hnx)))
  have HA3 := Lib.hid (fun (w1 w2 w3 : World) (P' : Nat → Prop) (hb : Below u.drew.heap.size u.drew w1) (hc : Chg P P' w1 w2) (hb3 : Below w2.heap.size w2 w3) => cells5 w3 ((hb3.block _ (Nat.lt_of_lt_of_le (Nat.lt_of_lt_of_le hbl hb.size) hc.size)).trans ((hc.keep _ (Nat.lt_of_lt_of_le hbl hb.size) hnP).1.trans ((hb.block _ hbl).trans hnx))))
  have HA4 := Lib.hid (fun (w1 w2 w3 w4 : World) (P' M' : Nat → Prop) (hb : Below u.drew.heap.size u.drew w1) (hc : Chg P P' w1 w2) (hb3 : Below w2.heap.size w2 w3) (hc4 : Chg M M' w3 w4) => cells5 w4 ((hc4.keep _ (Nat.lt_of_lt_of_le (Nat.lt_of_lt_of_le (Nat.lt_of_lt_of_le hbl hb.size) hc.size) hb3.size) hnM).1.trans ((hb3.block _ (Nat.lt_of_lt_of_le (Nat.lt_of_lt_of_le hbl hb.size) hc.size)).trans ((hc.keep _ (Nat.lt_of_lt_of_le hbl hb.size) hnP).1.trans ((hb.block _ hbl).trans hnx)))))
  have hch := fun (w1 w2 w3 : World) (P' : Nat → Prop) (hb : Below u.drew.heap.size u.drew w1) (hc : Chg P P' w1 w2) (hb3 : Below w2.heap.size w2 w3) => show Chg P P' u.drew w3 from ((Chg.of_below hb).trans hc).trans (Chg.of_below hb3)
  have hpl : r.put.length ≤ 1000 := Nat.le_trans hR.pl (by decide)
  have KR := Lib.hid (fun (w1 w2 w3 : World) (v3 : Value) (P' : Nat → Prop) (hb : Below u.drew.heap.size u.drew w1) (hc : Chg P P' w1 w2) (hl : ∀ k, P' k → k < w2.heap.size) (hb3 : Below w2.heap.size w2 w3) (hv : BSl w3 v3 (blkL x short)) => rsPut_any (hru.chg (hch w1 w2 w3 P' hb hc hb3)) (fun k hk => Nat.lt_of_lt_of_le (hl k hk) hb3.size) hv hn hpl)
  have hout : ∀ (w2 w3 : World) (P' : Nat → Prop) (z : Int), Below w2.heap.size w2 w3 → (∀ k, P' k → k < w2.heap.size) → Out2 Inv Dead d p X r (rPut r n (blkL x short)) w2 P' z → Out2 Inv Dead d p X r (rPut r n (blkL x short)) w3 P' z := fun w2 w3 P' z hb3 hl ho => by
    rcases ho with ⟨a, X', hI, b⟩ | ⟨a, b, ds', l, hD, c⟩
    · exact .inl ⟨a, X', S.keep hI hb3.size fun k hk => hb3.block k (hl k hk), b⟩
    · exact .inr ⟨a, b, ds', l, S.deadKeep hD hb3.size (fun k hk => hb3.block k (hl k hk)), c⟩
  have HFIN := Lib.hid (fun (w1 w2 w3 w4 : World) (P' : Nat → Prop) (z : Int) (e : Ending) (hb : Below u.drew.heap.size u.drew w1) (hc : Chg P P' w1 w2) (hl : ∀ k, P' k → k < w2.heap.size) (hb3 : Below w2.heap.size w2 w3) (ho : Out2 Inv Dead d p X r (rPut r n (blkL x short)) w2 P' z) (hs : ROut w3 P' M q vS r.sts (rPut r n (blkL x short)) e w4) =>
    S.fin hbd hru (hout w2 w3 P' z hb3 hl ho) (hch w1 w2 w3 P' hb hc hb3) hs (by rw [(rPut_len r n (blkL x short)).1]; exact Nat.le_succ _) (by rw [(rPut_len r n (blkL x short)).2]; exact hR.len))
  have HU := Lib.hid hu
  obtain ⟨pb, rfl⟩ := S.ptr h
  have hq : ∃ qb, q = .pointer (some ⟨qb, 0, none⟩) := by
    obtain ⟨b, _, _, _, _, e, _⟩ := hr
    exact ⟨b, e⟩
  obtain ⟨qb, rfl⟩ := hq
  clear h hr hR hbx hnx hru hIu hu hbd hnP hnM hbl cells5 hch hout hpl
  unfold opV
  unfold opV at KBL
  go_enter Tryz.func11, Tryz.ntmps11
  go_upto_region 1 with (fail)
  rw [← HU.out]
  go_upto_region 5 with (fail)
  go_region_held3 (fun W => W.cell? ⟨w.heap.size, 0, none⟩ = some (.int .i64 2) ∧ W.cell? ⟨w.heap.size, 1, none⟩ = some (.int .i64 n) ∧ W.cell? ⟨w.heap.size, 2, none⟩ = some (.int .u8 x) ∧ W.cell? ⟨w.heap.size, 3, none⟩ = some (.bool keep) ∧ W.cell? ⟨w.heap.size, 4, none⟩ = some (.bool short)) (first | exact s4 | exact s3 | exact s2 | exact s1 | exact s0) (first
    | (go_at_call 20; (with_reducible refine (KBL.out u.drew).mono ?_); rintro e w1 ⟨v1, rfl, hob1, hb1⟩
       have s1 := HA1.out w1 hb1
       have KB1 := Lib.hid (KB.out w1 v1 hb1 hob1.bsl)
       have HB1 := Lib.hid hb1
       clear hob1 hb1)
    | (go_at_call 19; (with_reducible refine KB1.out.mono ?_); rintro e w2 ⟨z, P', rfl, hc, hl, ho⟩
       have s2 := HA2.out w1 w2 P' HB1.out hc
       have HO2 := Lib.hid ho
       have HC2 := Lib.hid hc
       have HL2 := Lib.hid hl
       clear ho hc hl)
    | (go_at_call 20; (with_reducible refine (KBL.out w2).mono ?_); rintro e w3 ⟨v3, rfl, hob3, hb3⟩
       have s3 := HA3.out w1 w2 w3 P' HB1.out HC2.out hb3
       have KR3 := Lib.hid (KR.out w1 w2 w3 v3 P' HB1.out HC2.out HL2.out hb3 hob3.bsl)
       have HB3 := Lib.hid hb3
       clear hob3 hb3)
    | (go_at_call 21; (with_reducible refine KR3.out.mono ?_); rintro e w4 ho
       have HA := Lib.hid (HFIN.out w1 w2 w3 w4 P' z e HB1.out HC2.out HL2.out HB3.out HO2.out ho)
       obtain ⟨M', vS', rfl, _, hc4, _⟩ := ho
       have s4 := HA4.out w1 w2 w3 w4 P' M' HB1.out HC2.out HB3.out hc4
       clear hc4))
  all_goals
    go_wp2
    go_ret
    exact HA.out
end
end Go.Proofs.YtigbhdgcjklhoaaGreat

/- The law's do: Get; Sync within a call (over the bundle). -/
namespace Go.Proofs.YtigbhdgcjklhoaaGreat
set_option maxRecDepth 100000
open Go.RowKit
set_option linter.unusedVariables false

def rGet (r : RSt) (n : Int) : Int × List Int := if n < 0 ∨ (r.is.length : Int) ≤ n then (1, []) else (0, (if r.wi = true then r.call else r.is).getD n.toNat [])
theorem rsGetR {w : World} {P M : Nat → Prop} {p vS : Value} {r : RSt} (h : RSo w P M p vS r) {n : Int} (hb : -9223372036854775808 ≤ n ∧ n ≤ 9223372036854775807) :
    Calls Tryz.prog 27 #[p, .int .i64 n] w fun e w' => ∃ v, e = .returned (.tuple #[v, .int .i64 (rGet r n).1]) ∧ w = w' ∧ BSl w v (rGet r n).2 := by
  unfold rGet
  by_cases hn : n < 0 ∨ (r.is.length : Int) ≤ n
  · rw [if_pos hn]
    refine (rsGet_out h hn hb).mono ?_
    rintro e w' ⟨rfl, rfl⟩
    exact ⟨_, rfl, rfl, bsl_nil _⟩
  · rw [if_neg hn]
    obtain ⟨k, rfl⟩ : ∃ k : Nat, n = k := ⟨n.toNat, by omega⟩
    refine (rsGet_in h (by omega)).mono ?_
    rintro e w' ⟨v, rfl, rfl, hv, _⟩
    exact ⟨v, rfl, rfl, hv⟩
section
variable {Inv : World → (Nat → Prop) → Value → Value → XSt → Prop} {Dead : World → (Nat → Prop) → Value → Value → DS → Prop} (S : Sto Inv Dead)
include S
theorem Sto.getR {w : World} {P : Nat → Prop} {d p : Value} {X : XSt} {r : RSt} (h : Inv w P d p X) (hR : Rel X r) {n : Int} (hb : -9223372036854775808 ≤ n ∧ n ≤ 9223372036854775807) (hj : ¬ (3 ≤ n ∧ n < 43)) :
    Calls Tryz.prog 26 #[p, .int .i64 n] w fun e w' => ∃ v P', e = .returned (.tuple #[v, .int .i64 (rGet r n).1]) ∧ BSl w' v (rGet r n).2 ∧ Inv w' P' d p X ∧ Chg P P' w w' := by
  unfold rGet
  rw [hR.len]
  by_cases hn : n < 0 ∨ (X.is.length : Int) ≤ n
  · rw [if_pos hn]
    refine (S.getOut h hb hn).mono ?_
    rintro e w' ⟨rfl, P', hI, hc⟩
    exact ⟨_, P', rfl, bsl_nil _, hI, hc⟩
  · rw [if_neg hn]
    obtain ⟨k, rfl⟩ : ∃ k : Nat, n = k := ⟨n.toNat, by omega⟩
    have hk : k < X.is.length := by omega
    have hO : OutJ k := by unfold OutJ; omega
    refine (S.getIn h hk).mono ?_
    rintro e w' ⟨v, l, rfl, hv, hl, P', hI, hc⟩
    refine ⟨v, P', rfl, ?_, hI, hc⟩
    rw [hl hO] at hv
    rw [hR.wi]
    have e1 : (if X.wi = true then r.call else r.is).getD k [] = (if X.wi = true then X.call else X.is).getD k [] := by
      cases hw : X.wi
      · exact hR.is.2 k hO hk
      · exact (hR.call hw).1.2 k hO (by rw [(S.plain h).call hw]; exact hk)
    show BSl w' v ((if X.wi = true then r.call else r.is).getD k [])
    rw [e1]
    exact hv
set_option maxHeartbeats 1000000 in
theorem do11_get {w : World} {P M : Nat → Prop} {d p q vS : Value} {X : XSt} {r : RSt} (h : Inv w P d p X) (hr : RSo w P M q vS r) (hR : Rel X r) (k n x : Int) (keep short : Bool) (h1 : k ≠ 1) (h2 : k ≠ 2) (h3 : k ≠ 3) (h4 : k ≠ 4) (hb : -9223372036854775808 ≤ n ∧ n ≤ 9223372036854775807) (hj : ¬ (3 ≤ n ∧ n < 43)) :
    Calls Tryz.prog 11 #[p, q, opV k n x keep short] w fun e w' => Alive Inv w P M d p q vS X r e w' := by
  obtain ⟨u, hu⟩ : ∃ u, u = w.alloc (.cells #[.int .i64 k, .int .i64 n, .int .u8 x, .bool keep, .bool short] 37) := ⟨_, rfl⟩
  have hbx : Below w.heap.size w u := by rw [hu]; exact below_box w _
  have hnx : u.heap[w.heap.size]? = some (.cells #[.int .i64 k, .int .i64 n, .int .u8 x, .bool keep, .bool short] 37 (0, 0)) := by rw [hu]; exact heap_alloc_new w _
  obtain ⟨c0, _⟩ := box_cell (i := 0) hnx rfl
  obtain ⟨c1, _⟩ := box_cell (i := 1) hnx rfl
  have hru := hr.below hbx
  have hIu : Inv u P d p X := S.keep h hbx.size fun k hk => hbx.block k (S.lt h k hk)
  have hnP : ¬ P w.heap.size := fun e => Nat.lt_irrefl _ (S.lt h _ e)
  have hbl : w.heap.size < u.heap.size := (Array.getElem?_eq_some_iff.1 hnx).1
  have KB := Lib.hid (S.getR hIu hR hb hj)
  have KR := Lib.hid (fun (w2 : World) (P' : Nat → Prop) (hc : Chg P P' u w2) => rsGetR (hru.chg hc) hb)
  have HCL := Lib.hid (fun (w2 : World) (P' : Nat → Prop) (hc : Chg P P' u w2) => show w2.cell? ⟨w.heap.size, 1, none⟩ = some (.int .i64 n) from
    (World.cell?_of_block (a := ⟨w.heap.size, 1, none⟩) (hc.keep _ hbl hnP).1).trans c1)
  have HFIN := Lib.hid (fun (w2 : World) (P' : Nat → Prop) (hI : Inv w2 P' d p X) (hc : Chg P P' u w2) => show Alive Inv w P M d p q vS X r (.returned (.bool true)) w2 from
    ⟨P', M, vS, X, r, rfl, hI, hru.chg hc, hR, (hru.chg hc).old, (Chg.of_below hbx).trans hc.orR, Nat.le_succ _, rfl, rfl⟩)
  have HU := Lib.hid hu
  obtain ⟨pb, rfl⟩ := S.ptr h
  have hq : ∃ qb, q = .pointer (some ⟨qb, 0, none⟩) := by
    obtain ⟨b, _, _, _, _, e, _⟩ := hr
    exact ⟨b, e⟩
  obtain ⟨qb, rfl⟩ := hq
  obtain ⟨z0, hz0⟩ : ∃ z0, z0 = (rGet r n).1 := ⟨_, rfl⟩
  obtain ⟨l0, hl0⟩ : ∃ l0, l0 = (rGet r n).2 := ⟨_, rfl⟩
  rw [← hz0, ← hl0] at KB KR
  clear h hr hR hbx hnx hru hIu hu hnP hbl hz0 hl0
  unfold opV
  go_enter Tryz.func11, Tryz.ntmps11
  go_upto_region 1 with (fail)
  rw [← HU.out]
  go_wp2_with (first
    | (go_at_call 26; (with_reducible refine KB.out.mono ?_); rintro e w2 ⟨v1, P', rfl, hv1, hI, hc⟩
       have KR2 := Lib.hid (KR.out w2 P' hc)
       have g1 := HCL.out w2 P' hc
       have hcv1 := conv_bsl hv1
       have HA := Lib.hid (HFIN.out w2 P' hI hc)
       clear hv1 hI hc)
    | (go_at_call 27; (with_reducible refine KR2.out.mono ?_); rintro e w3 ⟨v2, rfl, rfl, hv2⟩
       have hcv2 := conv_bsl hv2
       clear hv2))
  go_ret
  exact HA.out
end
end Go.Proofs.YtigbhdgcjklhoaaGreat

/- The law's do: Sync in or out of a call; whatever op (over the bundle). -/
namespace Go.Proofs.YtigbhdgcjklhoaaGreat
set_option maxRecDepth 100000
open Go.RowKit
set_option linter.unusedVariables false

section
variable {Inv : World → (Nat → Prop) → Value → Value → XSt → Prop} {Dead : World → (Nat → Prop) → Value → Value → DS → Prop} (S : Sto Inv Dead)
include S
theorem do11_syncNo {w : World} {P M : Nat → Prop} {d p q vS : Value} {X : XSt} {r : RSt} (h : Inv w P d p X) (hr : RSo w P M q vS r) (hR : Rel X r) (hw : X.wi = true) (n x : Int) (keep short : Bool) :
    Calls Tryz.prog 11 #[p, q, opV 4 n x keep short] w fun e w' => AliveK 4 Inv w P M d p q vS X r e w' := by
  obtain ⟨u, hu⟩ : ∃ u, u = w.alloc (.cells #[.int .i64 4, .int .i64 n, .int .u8 x, .bool keep, .bool short] 37) := ⟨_, rfl⟩
  have hbx : Below w.heap.size w u := by rw [hu]; exact below_box w _
  have hnx : u.heap[w.heap.size]? = some (.cells #[.int .i64 4, .int .i64 n, .int .u8 x, .bool keep, .bool short] 37 (0, 0)) := by rw [hu]; exact heap_alloc_new w _
  obtain ⟨c0, _⟩ := box_cell (i := 0) hnx rfl
  have hru := hr.below hbx
  have hIu : Inv u P d p X := S.keep h hbx.size fun k hk => hbx.block k (S.lt h k hk)
  have e1 : rSync r = (17, r) := by unfold rSync; rw [hR.wi.trans hw]; rfl
  have KB := Lib.hid (S.syncNo hIu hw)
  have KR := Lib.hid (fun (w2 : World) (P' : Nat → Prop) (hI : Inv w2 P' d p X) (hc : Chg P P' u w2) => rsSync_any (hru.chg hc) (S.lt hI))
  rw [e1] at KR
  have HFIN := Lib.hid (fun (w2 w3 : World) (P' : Nat → Prop) (e : Ending) (hI : Inv w2 P' d p X) (hc : Chg P P' u w2) (ho : ROut w2 P' M q vS r.sts (17, r) e w3) => show AliveK 4 Inv w P M d p q vS X r (.returned (.bool true)) w3 from by
    obtain ⟨M', vS', _, k1, k2, k3⟩ := ho
    exact ⟨P', M', vS', X, r, rfl, S.past hI (hru.chg hc) k2, k1, hR, k3, (Chg.of_below hbx).trans (hc.both k2), Nat.le_succ _, rfl, rfl, fun _ e => absurd (hw.symm.trans e) (by decide)⟩)
  have HU := Lib.hid hu
  obtain ⟨pb, rfl⟩ := S.ptr h
  have hq : ∃ qb, q = .pointer (some ⟨qb, 0, none⟩) := by
    obtain ⟨b, _, _, _, _, e, _⟩ := hr
    exact ⟨b, e⟩
  obtain ⟨qb, rfl⟩ := hq
  clear h hr hR hbx hnx hru hIu hu e1
  unfold opV
  go_enter Tryz.func11, Tryz.ntmps11
  go_upto_region 1 with (fail)
  rw [← HU.out]
  go_wp2_with (first
    | (go_at_call 24; (with_reducible refine KB.out.mono ?_); rintro e w2 ⟨rfl, P', hI, hc⟩
       have KR2 := Lib.hid (KR.out w2 P' hI hc)
       have HI2 := Lib.hid hI
       have HC2 := Lib.hid hc
       clear hI hc)
    | (go_at_call 25; (with_reducible refine KR2.out.mono ?_); rintro e w3 ho
       have HA := Lib.hid (HFIN.out w2 w3 P' e HI2.out HC2.out ho)
       obtain ⟨M', vS', rfl, _⟩ := ho))
  go_ret
  exact HA.out
/-- Whatever op, but Puts and Gets of the journal's blocks. -/
theorem do11_any {w : World} {P M : Nat → Prop} {d p q vS : Value} {X : XSt} {r : RSt} (h : Inv w P d p X) (hr : RSo w P M q vS r) (hR : Rel X r) (hst : r.sts.length ≤ 1000) (k n x : Int) (keep short : Bool) (hx : 0 ≤ x ∧ x ≤ 255) (hb : -9223372036854775808 ≤ n ∧ n ≤ 9223372036854775807)
    (hj : k = 1 ∨ k = 3 ∨ k = 4 ∨ ¬ (3 ≤ n ∧ n < 43)) :
    Calls Tryz.prog 11 #[p, q, opV k n x keep short] w fun e w' => AliveK k Inv w P M d p q vS X r e w' ∨ Gone Dead w P M d p q vS X r e w' := by
  by_cases h1 : k = 1
  · subst h1
    exact (do11_begin S h hr hR n x keep short).mono fun e w' k => .inl (k.k (by decide))
  by_cases h2 : k = 2
  · subst h2
    exact (do11_put S h hr hR n x keep short hx hb (by unfold OutJ; omega)).mono fun e w' k => k.imp (fun k => k.k (by decide)) id
  by_cases h3 : k = 3
  · subst h3
    exact (do11_end S h hr hR hst n x keep short).mono fun e w' k => k.imp (fun k => k.k (by decide)) id
  by_cases h4 : k = 4
  · subst h4
    cases hw : X.wi
    · exact do11_sync S h hr hR hw n x keep short
    · exact (do11_syncNo S h hr hR hw n x keep short).mono fun e w' k => .inl k
  · have hj' : ¬ (3 ≤ n ∧ n < 43) := by
      rcases hj with e | e | e | e
      · exact absurd e h1
      · exact absurd e h3
      · exact absurd e h4
      · exact e
    exact (do11_get S h hr hR k n x keep short h1 h2 h3 h4 hb hj').mono fun e w' k => .inl (k.k h4)
end
end Go.Proofs.YtigbhdgcjklhoaaGreat

/- The law's same: has a store the blocks of a state, but for the journal's (over the bundle). -/
namespace Go.Proofs.YtigbhdgcjklhoaaGreat
set_option maxRecDepth 100000
open Go.RowKit
set_option linter.unusedVariables false

section
variable {Inv : World → (Nat → Prop) → Value → Value → XSt → Prop} {Dead : World → (Nat → Prop) → Value → Value → DS → Prop} (S : Sto Inv Dead)
include S
set_option maxHeartbeats 2000000 in
theorem same11_is {w : World} {P : Nat → Prop} {d p v : Value} {X : XSt} {L C : List (List Int)} (h : Inv w P d p X) (hC : C = (if X.wi = true then X.call else X.is)) (hv : BBa w P v L) (hL : L.length = X.is.length) (h0 : 0 < L.length) (h2k : L.length ≤ 1000000) (B : Bool) (hB : B = true ↔ ∀ i, i < L.length → OutJ i → C.getD i [] = L.getD i []) :
    Calls Tryz.prog 29 #[p, v] w fun e w' => e = .returned (.bool B) ∧ ∃ P', Inv w' P' d p X ∧ Chg P P' w w' := by
  have HYE := Lib.hid hB.2
  have HNO := Lib.hid (fun k (hk : k < L.length) (ho : OutJ k) (hne : ¬ C.getD k [] = L.getD k []) => show B = false by
    cases e : B
    · rfl
    · exact absurd (hB.1 e k hk ho) hne)
  have hvw := hv
  rcases hv with ⟨_, e0⟩ | ⟨⟨b2, o2, sp⟩, cap, rfl, hcap, hc⟩
  · rw [e0] at h0; exact absurd h0 (Nat.lt_irrefl 0)
  obtain rfl : sp = none := (hc 0 h0).2.1
  have HE := Lib.hid (fun (W : World) (Q : Nat → Prop) (hq : Chg P Q w W) (k : Nat) (hk : k < L.length) => show ∃ u, W.cell? ⟨b2, o2 + k, none⟩ = some u ∧ BSl W u (L.getD k []) from by
    obtain ⟨⟨g1, g2⟩, _, u, g3, g4, g5⟩ := hc k hk
    exact ⟨u, (World.cell?_of_block (a := ⟨b2, o2 + k, none⟩) (hq.keep b2 g1 g2).1).trans g3, (g4.chg g5 hq).1⟩)
  have KGET := Lib.hid (fun (W : World) (Q : Nat → Prop) (hI : Inv W Q d p X) (k : Nat) (hk : k < L.length) => S.getIn hI (n := k) (by rw [← hL]; exact hk))
  rw [← hC] at KGET
  have HDR := Lib.hid (fun (W : World) (m : Nat) (hI : ∃ Q, Inv W Q d p X ∧ Chg P Q w W) => show ∃ Q, Inv (W.drewN m) Q d p X ∧ Chg P Q w (W.drewN m) from by
    obtain ⟨Q, h1, h2⟩ := hI
    exact ⟨Q, S.keep h1 (Nat.le_refl _) (fun _ _ => rfl), ⟨h2.os, h2.tape, h2.output, h2.size, h2.keep⟩⟩)
  have HS0 : Hid (∃ Q, Inv w Q d p X ∧ Chg P Q w w) := Lib.hid ⟨P, h, Chg.refl _ _⟩
  obtain ⟨pb, rfl⟩ := S.ptr h
  obtain ⟨n, hn⟩ : ∃ n, n = L.length := ⟨_, rfl⟩
  rw [← hn] at HYE HNO HE KGET h2k ⊢
  clear h hC hvw hc hL h0 hB hcap hn
  go_enter Tryz.func29, Tryz.ntmps29
  go_wp2
  go_loopw [10] (fun i wr => ∃ k : Nat, k ≤ n ∧ i = .int .i64 k ∧ Hid (∃ Q, Inv wr Q d (.pointer (some ⟨pb, 0, none⟩)) X ∧ Chg P Q w wr) ∧ Hid (∀ i, i < k → OutJ i → C.getD i [] = L.getD i [])) (fun i _ => n - (intOf i).toNat)
  case atStart => exact ⟨0, by omega, rfl, HS0, fun i hi => absurd hi (Nat.not_lt_zero _)⟩
  case round =>
    obtain ⟨k, hk, rfl, HI, HK⟩ := hrel
    clear HS0
    by_cases hlt : k < n
    · obtain ⟨Q, hI, hcQ⟩ := HI.out
      have KG := Lib.hid (KGET.out wr Q hI k hlt)
      have HE2 := Lib.hid (fun (w2 : World) (P2 : Nat → Prop) (hc2 : Chg Q P2 wr w2) => HE.out w2 P2 (hcQ.trans hc2) k hlt)
      have HNX := Lib.hid (fun (w2 : World) (P2 : Nat → Prop) (hI2 : Inv w2 P2 d (.pointer (some ⟨pb, 0, none⟩)) X) (hc2 : Chg Q P2 wr w2) => show ∃ Q, Inv w2 Q d (.pointer (some ⟨pb, 0, none⟩)) X ∧ Chg P Q w w2 from ⟨P2, hI2, hcQ.trans hc2⟩)
      have ek : (k : Int) < (n : Int) := by omega
      have HNK := Lib.hid (HNO.out k hlt)
      clear hI hcQ
      by_cases h3 : k < 3
      · have i3 : (k : Int) < 3 := by omega
        have hO : OutJ k := .inl h3
        by_cases heq : C.getD k [] = L.getD k []
        · skip
          go_wp2_with (first
            | (go_at_call 26; (with_reducible refine KG.out.mono ?_); rintro e w2 ⟨y, l, rfl, hy, hl, P2, hI2, hc2⟩
               obtain rfl := hl hO
               obtain ⟨x2, e2, s2⟩ := HE2.out w2 P2 hc2
               rw [heq] at hy
               have v1 := conv_bsl hy
               have v2 := conv_bsl s2
               have v1d := fun m => conv_drewN hy m
               have v2d := fun m => conv_drewN s2 m
               obtain ⟨y2, z2, rfl, _⟩ := s2.shape
               obtain ⟨y1, z1, rfl, _⟩ := hy.shape
               have HI2 := Lib.hid (HNX.out w2 P2 hI2 hc2)
               obtain ⟨T, hT⟩ : ∃ T, T = strOfNums (L.getD k []) := ⟨_, rfl⟩
               obtain ⟨m, hm⟩ : ∃ m, m = (L.getD k []).length := ⟨_, rfl⟩
               rw [← hT, ← hm] at v1 v2 v1d v2d
               rw [← hm] at e2 ⊢
               clear hT hm s2 hy hI2 hc2 hl))
          go_quiet (fail)
          go_wp2
          go_roundw
          case rel => exact ⟨k + 1, by omega, by go_num, HDR.out _ _ HI2.out, fun i hi ho => by
            by_cases e : i = k
            · subst e; exact heq
            · exact HK.out i (by omega) ho⟩
          case measure => simp [intOf]; omega
        · skip
          have hB0 := HNK.out hO heq
          go_wp2_with (first
            | (go_at_call 26; (with_reducible refine KG.out.mono ?_); rintro e w2 ⟨y, l, rfl, hy, hl, P2, hI2, hc2⟩
               obtain rfl := hl hO
               obtain ⟨x2, e2, s2⟩ := HE2.out w2 P2 hc2
               obtain ⟨hst2, hst3⟩ := strs_ne hy.1 s2.1 heq strOf_inj
               have v1 := conv_bsl hy
               have v2 := conv_bsl s2
               have v1d := fun m => conv_drewN hy m
               have v2d := fun m => conv_drewN s2 m
               obtain ⟨y2, z2, rfl, _⟩ := s2.shape
               obtain ⟨y1, z1, rfl, _⟩ := hy.shape
               have HI2 := Lib.hid (HNX.out w2 P2 hI2 hc2)
               obtain ⟨T1, hT1⟩ : ∃ T, T = strOfNums (C.getD k []) := ⟨_, rfl⟩
               obtain ⟨T2, hT2⟩ : ∃ T, T = strOfNums (L.getD k []) := ⟨_, rfl⟩
               obtain ⟨m1, hm1⟩ : ∃ m, m = (C.getD k []).length := ⟨_, rfl⟩
               obtain ⟨m2, hm2⟩ : ∃ m, m = (L.getD k []).length := ⟨_, rfl⟩
               rw [← hT1] at v1 v1d hst2 hst3
               rw [← hT2] at v2 v2d hst2 hst3
               rw [← hm1] at v1 v1d ⊢
               rw [← hm2] at v2 v2d e2
               clear hT1 hT2 hm1 hm2 s2 hy hI2 hc2 hl))
          go_quiet (fail)
          go_wp2
          go_ret
          exact ⟨by rw [hB0]; rfl, HDR.out _ _ HI2.out⟩
      by_cases h43 : 43 ≤ k
      · have i3 : ¬ (k : Int) < 3 := by omega
        have i43 : (43 : Int) ≤ (k : Int) := by omega
        have hO : OutJ k := .inr h43
        by_cases heq : C.getD k [] = L.getD k []
        · skip
          go_wp2_with (first
            | (go_at_call 26; (with_reducible refine KG.out.mono ?_); rintro e w2 ⟨y, l, rfl, hy, hl, P2, hI2, hc2⟩
               obtain rfl := hl hO
               obtain ⟨x2, e2, s2⟩ := HE2.out w2 P2 hc2
               rw [heq] at hy
               have v1 := conv_bsl hy
               have v2 := conv_bsl s2
               have v1d := fun m => conv_drewN hy m
               have v2d := fun m => conv_drewN s2 m
               obtain ⟨y2, z2, rfl, _⟩ := s2.shape
               obtain ⟨y1, z1, rfl, _⟩ := hy.shape
               have HI2 := Lib.hid (HNX.out w2 P2 hI2 hc2)
               obtain ⟨T, hT⟩ : ∃ T, T = strOfNums (L.getD k []) := ⟨_, rfl⟩
               obtain ⟨m, hm⟩ : ∃ m, m = (L.getD k []).length := ⟨_, rfl⟩
               rw [← hT, ← hm] at v1 v2 v1d v2d
               rw [← hm] at e2 ⊢
               clear hT hm s2 hy hI2 hc2 hl))
          go_quiet (fail)
          go_wp2
          go_roundw
          case rel => exact ⟨k + 1, by omega, by go_num, HDR.out _ _ HI2.out, fun i hi ho => by
            by_cases e : i = k
            · subst e; exact heq
            · exact HK.out i (by omega) ho⟩
          case measure => simp [intOf]; omega
        · skip
          have hB0 := HNK.out hO heq
          go_wp2_with (first
            | (go_at_call 26; (with_reducible refine KG.out.mono ?_); rintro e w2 ⟨y, l, rfl, hy, hl, P2, hI2, hc2⟩
               obtain rfl := hl hO
               obtain ⟨x2, e2, s2⟩ := HE2.out w2 P2 hc2
               obtain ⟨hst2, hst3⟩ := strs_ne hy.1 s2.1 heq strOf_inj
               have v1 := conv_bsl hy
               have v2 := conv_bsl s2
               have v1d := fun m => conv_drewN hy m
               have v2d := fun m => conv_drewN s2 m
               obtain ⟨y2, z2, rfl, _⟩ := s2.shape
               obtain ⟨y1, z1, rfl, _⟩ := hy.shape
               have HI2 := Lib.hid (HNX.out w2 P2 hI2 hc2)
               obtain ⟨T1, hT1⟩ : ∃ T, T = strOfNums (C.getD k []) := ⟨_, rfl⟩
               obtain ⟨T2, hT2⟩ : ∃ T, T = strOfNums (L.getD k []) := ⟨_, rfl⟩
               obtain ⟨m1, hm1⟩ : ∃ m, m = (C.getD k []).length := ⟨_, rfl⟩
               obtain ⟨m2, hm2⟩ : ∃ m, m = (L.getD k []).length := ⟨_, rfl⟩
               rw [← hT1] at v1 v1d hst2 hst3
               rw [← hT2] at v2 v2d hst2 hst3
               rw [← hm1] at v1 v1d ⊢
               rw [← hm2] at v2 v2d e2
               clear hT1 hT2 hm1 hm2 s2 hy hI2 hc2 hl))
          go_quiet (fail)
          go_wp2
          go_ret
          exact ⟨by rw [hB0]; rfl, HDR.out _ _ HI2.out⟩
      have i3 : ¬ (k : Int) < 3 := by omega
      have i43 : ¬ (43 : Int) ≤ (k : Int) := by omega
      have j3 : decide ((k : Int) < 3) = false := decide_eq_false i3
      have j43 : decide ((43 : Int) ≤ (k : Int)) = false := decide_eq_false i43
      go_wp2_with (first
        | (go_at_call 26; (with_reducible refine KG.out.mono ?_); rintro e w2 ⟨y, l, rfl, hy, hl, P2, hI2, hc2⟩
           have HI2 := Lib.hid (HNX.out w2 P2 hI2 hc2)
           obtain ⟨y1, z1, rfl, _⟩ := hy.shape
           obtain ⟨m, hm⟩ : ∃ m, m = l.length := ⟨_, rfl⟩
           rw [← hm]
           clear hy hI2 hc2 hl hm))
      go_quiet (fail)
      go_wp2
      go_roundw
      case rel => exact ⟨k + 1, by omega, by go_num, HDR.out _ _ HI2.out, fun i hi ho => by
        by_cases e : i = k
        · subst e; exact absurd ho (by unfold OutJ; omega)
        · exact HK.out i (by omega) ho⟩
      case measure => simp [intOf]; omega
    · obtain rfl : k = n := by omega
      have hBt := HYE.out HK.out
      go_wp2
      go_ret
      exact ⟨by rw [hBt]; rfl, HI.out⟩
end
end Go.Proofs.YtigbhdgcjklhoaaGreat

/- The laws' loops: both stores alive, side by side, apart from what was there. -/
namespace Go.Proofs.YtigbhdgcjklhoaaGreat
set_option maxRecDepth 100000
open Go.RowKit
set_option linter.unusedVariables false

/-- In a region that draws its order, S may be strengthened on the way. -/
theorem wpAnyH_grow {P : Program} {md : Region.Mode} {ops : Array Oper} {Q : Exit → Act → World → Prop} {S S' : World → Prop} (h : ∀ w, S' w → S w) : ∀ (fuel : Nat) (listed : Array Bool) (a : Act) (w : World), wpAnyH P md ops Q S' fuel listed a w → wpAnyH P md ops Q S fuel listed a w
  | 0, _, _, _, h0 => h0
  | fuel + 1, _, _, _, h0 => ⟨h0.1, fun i hi => wpOp_mono (fun a' w' h' => ⟨h _ h'.1, wpAnyH_grow h fuel _ a' w' h'.2⟩) (h0.2 i hi)⟩
/-- Both stores, in the world W, since w0; f: is there a fuse? -/
structure Live (Inv : World → (Nat → Prop) → Value → Value → XSt → Prop) (w0 : World) (d p q : Value) (f : Bool) (N : Nat) (W : World) (P M : Nat → Prop) (vS : Value) (X : XSt) (r : RSt) : Prop where
  inv : Inv W P d p X
  rso : RSo W P M q vS r
  rel : Rel X r
  fu : X.ds.fu = f
  len : X.is.length = 80
  sts : r.sts.length ≤ N
  own : ∀ k, P k ∨ M k → w0.heap.size ≤ k
  low : Below w0.heap.size w0 W
section
variable {Inv : World → (Nat → Prop) → Value → Value → XSt → Prop} {Dead : World → (Nat → Prop) → Value → Value → DS → Prop} (S : Sto Inv Dead) {w0 W : World} {d p q vS : Value} {f : Bool} {N : Nat} {P M : Nat → Prop} {X : XSt} {r : RSt}
include S
theorem Live.below (h : Live Inv w0 d p q f N W P M vS X r) {W' : World} (hb : Below W.heap.size W W') : Live Inv w0 d p q f N W' P M vS X r :=
  ⟨S.keep h.inv hb.size fun k hk => hb.block k (S.lt h.inv k hk), h.rso.below hb, h.rel, h.fu, h.len, h.sts, h.own, h.low.trans (hb.mono h.low.size)⟩
omit S in
theorem Live.more (h : Live Inv w0 d p q f N W P M vS X r) {N' : Nat} (hn : N ≤ N') : Live Inv w0 d p q f N' W P M vS X r := { h with sts := Nat.le_trans h.sts hn }
omit S in
theorem Live.past (h : Live Inv w0 d p q f N W P M vS X r) {W' : World} {P' M' : Nat → Prop} (hc : Chg (fun k => P k ∨ M k) (fun k => P' k ∨ M' k) W W') : (∀ k, P' k ∨ M' k → w0.heap.size ≤ k) ∧ Below w0.heap.size w0 W' :=
  ⟨fun k hk => (chg_new hc hk).elim (h.own k) fun e => Nat.le_trans h.low.size e, h.low.trans (hc.below fun k hk => ⟨Nat.lt_of_lt_of_le hk h.low.size, fun e => by have := h.own k e; omega⟩)⟩
theorem Live.ptrs (h : Live Inv w0 d p q f N W P M vS X r) : (∃ b, p = .pointer (some ⟨b, 0, none⟩)) ∧ ∃ qb, q = .pointer (some ⟨qb, 0, none⟩) := by
  refine ⟨S.ptr h.inv, ?_⟩
  obtain ⟨b, _, _, _, _, e, _⟩ := h.rso
  exact ⟨b, e⟩
/-- The law's do, while there is no fuse. -/
theorem Live.does (h : Live Inv w0 d p q false N W P M vS X r) (hN : N ≤ 1000) (o : O11) (ho : o.ok) (hj : o.k = 1 ∨ o.k = 3 ∨ o.k = 4 ∨ ¬ (3 ≤ o.n ∧ o.n < 43)) :
    Calls Tryz.prog 11 #[p, q, opV o.k o.n o.x o.keep o.short] W fun e W' => e = .returned (.bool true) ∧ ∃ P' M' vS' X' r', Live Inv w0 d p q false (N + 1) W' P' M' vS' X' r' ∧ (o.k = 4 → X'.wi = false → X'.dt = 0) ∧ Chg (fun k => P k ∨ M k) (fun k => P' k ∨ M' k) W W' :=
  (do11_any S h.inv h.rso h.rel (Nat.le_trans h.sts hN) o.k o.n o.x o.keep o.short ho.1 ho.2 hj).mono fun e W' hq => by
    rcases hq with ⟨P', M', vS', X', r', he, h1, h2, h3, _, h5, h6, h7, h8, h9⟩ | ⟨hf, _⟩
    · obtain ⟨k1, k2⟩ := h.past h5
      exact ⟨he, P', M', vS', X', r', ⟨h1, h2, h3, h7.trans h.fu, h8.trans h.len, by have := h.sts; omega, k1, k2⟩, h9, h5⟩
    · rw [h.fu] at hf; cases hf
/-- The blocks told are the reference's. -/
theorem Live.same (h : Live Inv w0 d p q f N W P M vS X r) {v : Value} {L : List (List Int)} (hv : BBa W P v L) (hL : eqO L (if X.wi = true then X.call else X.is)) (hl : L.length = 80) :
    Calls Tryz.prog 29 #[p, v] W fun e W' => e = .returned (.bool true) ∧ ∃ P', Inv W' P' d p X ∧ Chg P P' W W' :=
  same11_is S h.inv rfl hv (hl.trans h.len.symm) (by omega) (by omega) true ⟨fun _ i hi ho => (hL.2 i ho (by have := hL.1; omega)).symm, fun _ => rfl⟩
omit S in
/-- The cells of the reference's struct that the laws load. -/
theorem RSo.law {qb : Nat} (h : RSo W P M (.pointer (some ⟨qb, 0, none⟩)) vS r) : ∃ vI vC, W.cell? ⟨qb, 0, none⟩ = some vI ∧ W.cell? ⟨qb, 1, none⟩ = some vC ∧ W.cell? ⟨qb, 4, none⟩ = some (.bool r.wi) ∧ BBa W P vI r.is ∧ (r.wi = true → BBa W P vC r.call) ∧ (∃ a n c, vI = .slice a n c) ∧ (r.wi = true → ∃ a n c, vC = .slice a n c) := by
  obtain ⟨b, m, vI, vC, vP, e, hA⟩ := h
  obtain rfl : qb = b := by injection e with e; injection e with e; injection e with e
  refine ⟨vI, vC, hA.c0, hA.c1, hA.c4, hA.hI.sub fun k => .inl, ?_, ?_, ?_⟩
  · intro hw
    obtain ⟨_, _, hcl, vs, hl, he, ho⟩ := hA.hC hw
    exact BBa.of_row (ho := by rw [← hl]; exact (by rw [hl]; exact ho)) hl (fun j hj => ⟨(he j hj).1, (he j hj).2.sub fun k => .inl⟩) (fun k hk => hA.apart k ((hA.own k).2 (.inr (.inr ⟨hw, .inl hk⟩))))
  · obtain ⟨a, c, e, _⟩ := hA.hI.sl.shape
    exact ⟨_, _, _, e⟩
  · intro hw
    obtain ⟨g, cap, e, _⟩ := hA.call hw
    exact ⟨_, _, _, e⟩
omit S in
/-- A new disk's stores. -/
theorem Live.new {B : World} {P M : Nat → Prop} {ds : DS} (hI : Inv W P d p ⟨List.replicate 80 zb, List.replicate 80 zb, [], [], false, 0, ds⟩) (hr : RSo W P M q vS ⟨List.replicate 80 zb, [], [], [List.replicate 80 zb], false⟩) (hf : ds.fu = f) (ho : ∀ k, P k ∨ M k → B.heap.size ≤ k) (hb : Below B.heap.size B W) :
    Live Inv B d p q f 1 W P M vS ⟨List.replicate 80 zb, List.replicate 80 zb, [], [], false, 0, ds⟩ ⟨List.replicate 80 zb, [], [], [List.replicate 80 zb], false⟩ :=
  ⟨hI, hr, Rel.opened (eqO.refl _), hf, List.length_replicate, Nat.le_refl _, ho, hb⟩
end
end Go.Proofs.YtigbhdgcjklhoaaGreat

/- Helpers of the laws' walks. -/
namespace Go.Proofs.YtigbhdgcjklhoaaGreat
set_option maxRecDepth 100000
open Go.RowKit
set_option linter.unusedVariables false

/-- The cells of a call's box. -/
theorem box5 {W : World} {bx : Nat} {kd n x : Int} {kp sh : Bool} (h : W.heap[bx]? = some (.cells #[.int .i64 kd, .int .i64 n, .int .u8 x, .bool kp, .bool sh] 37 (0, 0))) : W.cell? ⟨bx, 0, none⟩ = some (.int .i64 kd) ∧ W.cell? ⟨bx, 1, none⟩ = some (.int .i64 n) ∧ W.cell? ⟨bx, 2, none⟩ = some (.int .u8 x) ∧ W.cell? ⟨bx, 3, none⟩ = some (.bool kp) ∧ W.cell? ⟨bx, 4, none⟩ = some (.bool sh) :=
  ⟨(box_cell h rfl).1, (box_cell h rfl).1, (box_cell h rfl).1, (box_cell h rfl).1, (box_cell h rfl).1⟩
theorem set1 {w W W' : World} {P P' : Nat → Prop} (ho : ∀ k, P k → w.heap.size ≤ k) (hb : Below w.heap.size w W) (hc : Chg P P' W W') : (∀ k, P' k → w.heap.size ≤ k) ∧ Below w.heap.size w W' :=
  ⟨fun k hk => (chg_new hc hk).elim (ho k) fun e => Nat.le_trans hb.size e, hb.trans (hc.below fun k hk => ⟨Nat.lt_of_lt_of_le hk hb.size, fun e => by have := ho k e; omega⟩)⟩
section
variable {Inv : World → (Nat → Prop) → Value → Value → XSt → Prop} {Dead : World → (Nat → Prop) → Value → Value → DS → Prop} (S : Sto Inv Dead)
include S
/-- Behind Open, zeros, NewStore. -/
theorem set2 {w W3 W4 W5 : World} {P M : Nat → Prop} {d p q vS : Value} {ds : DS} {f : Bool} (hI : Inv W3 P d p ⟨List.replicate 80 zb, List.replicate 80 zb, [], [], false, 0, ds⟩) (hf : ds.fu = f) (ho : ∀ k, P k → w.heap.size ≤ k) (hb : Below w.heap.size w W3) (hb4 : Below W3.heap.size W3 W4)
    (hr : RSo W5 P M q vS ⟨List.replicate 80 zb, [], [], [List.replicate 80 zb], false⟩) (hb5 : Below W4.heap.size W4 W5) (hM : ∀ k, M k → W4.heap.size ≤ k) :
    Live Inv w d p q f 1 W5 P M vS ⟨List.replicate 80 zb, List.replicate 80 zb, [], [], false, 0, ds⟩ ⟨List.replicate 80 zb, [], [], [List.replicate 80 zb], false⟩ := by
  have h35 : Below W3.heap.size W3 W5 := hb4.trans (hb5.mono hb4.size)
  refine Live.new (S.keep hI h35.size fun k hk => h35.block k (S.lt hI k hk)) hr hf ?_ (hb.trans (h35.mono hb.size))
  rintro k (hk | hk)
  · exact ho k hk
  · exact Nat.le_trans (Nat.le_trans hb.size hb4.size) (hM k hk)
end
theorem shape80 {W : World} {P : Nat → Prop} {v : Value} (h : BBa W P v (List.replicate 80 zb)) : ∃ a c, v = .slice a 80 c := by
  obtain ⟨a, c, e, _⟩ := h.sl.shape
  exact ⟨a, c, by rw [e, List.length_replicate]⟩
theorem sizeO11 : (Tryz.prog.info? 37).map (·.size) = some 5 := by kernel_rfl
theorem wpList_store_t5 {ops : Array Oper} {rest : List Oper} {o : Oper} {a : Act} {w : World} {Q : Exit → Act → World → Prop} (hgd : o.guard = none) (ty : TypeId) (hi : (Tryz.prog.info? ty).map (·.size) = some 5) (x y : Operand) (ho : o.op = .store ty x y)
    (g : Nat) (hx : a.eval x = .pointer (some ⟨g, 0, none⟩)) (z0 z1 z2 z3 z4 y0 y1 y2 y3 y4 : Value) (hy : a.eval y = .agg #[z0, z1, z2, z3, z4]) (h0 : z0.oneCell' = true) (h1 : z1.oneCell' = true) (h2 : z2.oneCell' = true) (h3 : z3.oneCell' = true) (h4 : z4.oneCell' = true) (T : TypeId) (hg : w.heap[g]? = some (.cells #[y0, y1, y2, y3, y4] T (0, 0)))
    (h : ∀ w', Wrote w w' g → w'.heap[g]? = some (.cells #[z0, z1, z2, z3, z4] T (0, 0)) → wpList Tryz.prog ops Q rest (a.put o.dst undef) w') : wpList Tryz.prog ops Q (o :: rest) a w :=
  wpList_store_row hgd ty x y ho g #[z0, z1, z2, z3, z4] hx hy T _ hg hi rfl (by simp [h0, h1, h2, h3, h4]) (h _ (Wrote.setRow _ _ _) (setRow_heap _ _ _ _ _ _ hg))
theorem OpsS.op {w : World} {a : Option Addr} {L cap : Nat} {Sc : List O11} (h : OpsS w (.slice a L cap) Sc) (hL : L = Sc.length) {k : Nat} (hk : k < L) : ∃ b off kd n x kp sh, a = some ⟨b, off, none⟩ ∧ b < w.heap.size ∧ O11.ok ⟨kd, n, x, kp, sh⟩ ∧ w.cell? ⟨b, off + k * 5, none⟩ = some (.int .i64 kd) ∧ w.cell? ⟨b, off + k * 5 + 1, none⟩ = some (.int .i64 n) ∧ w.cell? ⟨b, off + k * 5 + 2, none⟩ = some (.int .u8 x) ∧ w.cell? ⟨b, off + k * 5 + 3, none⟩ = some (.bool kp) ∧ w.cell? ⟨b, off + k * 5 + 4, none⟩ = some (.bool sh) := by
  rcases h with ⟨_, _, _, e⟩ | ⟨b, off, c, e, hi⟩
  · rw [e] at hL; rw [hL] at hk; exact absurd hk (Nat.not_lt_zero _)
  · obtain ⟨h1, ⟨c0, c1, c2, c3, c4⟩, ho⟩ := hi k (by omega)
    exact ⟨b, off, _, _, _, _, _, (Value.slice.inj e).1, h1, ho, c0, c1, c2, c3, c4⟩
theorem OpsS.shape {w : World} {v : Value} {Sc : List O11} (h : OpsS w v Sc) : ∃ a c, v = .slice a Sc.length c := by
  rcases h with ⟨a, c, h, e⟩ | ⟨b, off, cap, h, _⟩
  · exact ⟨a, c, by rw [e]; exact h⟩
  · exact ⟨_, cap, h⟩
/-- Behind a change of one store's blocks. -/
theorem Live.turn {Inv Inv2 : World → (Nat → Prop) → Value → Value → XSt → Prop} {w0 W W' : World} {d p q vS : Value} {f : Bool} {N : Nat} {P P' M : Nat → Prop} {X : XSt} {r : RSt} (h : Live Inv w0 d p q f N W P M vS X r) (hI : Inv2 W' P' d p X) (hc : Chg P P' W W') : Live Inv2 w0 d p q f N W' P' M vS X r := by
  refine ⟨hI, h.rso.chg hc, h.rel, h.fu, h.len, h.sts, ?_, ?_⟩
  · rintro k (hk | hk)
    · exact (chg_new hc hk).elim (fun e => h.own k (.inl e)) fun e => Nat.le_trans h.low.size e
    · exact h.own k (.inr hk)
  · exact h.low.trans (hc.below fun k hk => ⟨Nat.lt_of_lt_of_le hk h.low.size, fun e => by have := h.own k (.inl e); omega⟩)
/-- A call that is to be undone: whatever it put. -/
def SUnd (w : World) (P : Nat → Prop) (d p : Value) (X : XSt) : Prop :=
  ∃ b be bp Pd q ek eg ev pk pg pv, p = .pointer (some ⟨b, 0, none⟩) ∧ SMem w Pd b be bp d q ek eg ev pk pg pv true X.ds ∧ SPl X ek ev [] pv ∧ pk.length ≤ 37 ∧ (∀ k, SOwn Pd b be bp ek eg pk pg k → P k) ∧ ∀ k, P k → k < w.heap.size
section
variable {w w' : World} {P : Nat → Prop} {d p : Value} {X : XSt}
theorem SUnd.of (h : SInv w P d p X) (hw : X.wi = true) : SUnd w P d p { X with wi := false } := by
  obtain ⟨b, be, bp, Pd, q, ek, eg, ev, pk, pg, pv, rfl, hm, hpl, ho, hl⟩ := h
  rw [hw] at hm
  exact ⟨b, be, bp, Pd, q, ek, eg, ev, pk, pg, pv, rfl, hm, hpl.undo pv, hpl.pl, ho, hl⟩
theorem SUnd.below (h : SUnd w P d p X) (hb : Below w.heap.size w w') : SUnd w' P d p X := by
  obtain ⟨b, be, bp, Pd, q, ek, eg, ev, pk, pg, pv, rfl, hm, hpl, hk, ho, hl⟩ := h
  exact ⟨b, be, bp, Pd, q, ek, eg, ev, pk, pg, pv, rfl, hm.below hb, hpl, hk, ho, fun k hk => Nat.lt_of_lt_of_le (hl k hk) hb.size⟩
theorem SUnd.ended (h : SUnd w P d p X) (hw : X.wi = false) : Calls Tryz.prog 22 #[p, .bool false] w (XOut SInv w P d p (0, X)) := by
  obtain ⟨b, be, bp, Pd, q, ek, eg, ev, pk, pg, pv, rfl, hm, hpl, _, ho, hl⟩ := h
  refine (sEnd_undo hm).mono ?_
  rintro e w' ⟨rfl, rfl⟩
  obtain ⟨hm', hsz, hext⟩ := hm.cleared pg pv
  have hm2 : SMem (((w.setCell ⟨b, 3, none⟩ (.map (some w.heap.size))).setCell ⟨b, 4, none⟩ (.bool false)).alloc (.map #[] 0)) Pd b be w.heap.size d q ek eg ev [] pg pv X.wi X.ds := by rw [hw]; exact hm'
  refine ⟨rfl, _, sinv_of hm2 hpl hl hext.size ?_, (hext.sub fun k e => ho k (.inr (.inl e))).chg⟩
  intro k hk
  rcases hk with hk | rfl | rfl | rfl | ⟨x, hx, hg⟩ | ⟨x, hx, _⟩
  · exact .inl (ho k (.inl hk))
  · exact .inl (ho _ (.inr (.inl rfl)))
  · exact .inl (ho _ (.inr (.inr (.inl rfl))))
  · exact .inr (Nat.le_refl _)
  · exact .inl (ho k (.inr (.inr (.inr (.inr (.inl ⟨x, hx, hg⟩))))))
  · exact absurd hx List.not_mem_nil
theorem SPl.nil {ek : List Int} {ev pv : Int → List Int} (h : SPl X ek ev [] pv) (pv' : Int → List Int) : SPl X ek ev [] pv' :=
  { h with
    kp := fun x hx => absurd hx List.not_mem_nil
    wi1 := fun e => ⟨(h.wi1 e).1, (h.wi1 e).2.1, fun i ho hi => by rw [(h.wi1 e).2.2 i ho hi, if_neg List.not_mem_nil, if_neg List.not_mem_nil]⟩ }
theorem SUnd.put (h : SUnd w P d p X) {n : Int} {v : Value} {l : List Int} (hv : BSl w v l) (hn : -9223372036854775808 ≤ n ∧ n ≤ 9223372036854775807) : Calls Tryz.prog 19 #[p, .int .i64 n, v] w fun e w' => ∃ z P', e = .returned (.int .i64 z) ∧ SUnd w' P' d p X ∧ Chg P P' w w' := by
  have h' := h
  obtain ⟨b, be, bp, Pd, q, ek, eg, ev, pk, pg, pv, rfl, hm, hpl, hp37, ho, hlt⟩ := h
  have hFl := hpl.ok.lst.1
  have h768 := hpl.n64.2
  have hwf : (Lit.int .i64 n).wf = true := i64wf hn
  have same : ∀ z : Int, Calls Tryz.prog 19 #[.pointer (some ⟨b, 0, none⟩), .int .i64 n, v] w (fun e w' => e = .returned (.int .i64 z) ∧ w = w') → Calls Tryz.prog 19 #[.pointer (some ⟨b, 0, none⟩), .int .i64 n, v] w (fun e w' => ∃ z P', e = .returned (.int .i64 z) ∧ SUnd w' P' d (.pointer (some ⟨b, 0, none⟩)) X ∧ Chg P P' w w') := fun z h => h.mono fun e w' ⟨he, hw⟩ => by
    subst hw
    exact ⟨z, P, he, h', Chg.refl _ _⟩
  have KA := Lib.hid (sAllows_is hm true)
  have KH := Lib.hid (sHas_is hm n)
  have KL := Lib.hid (sLoggable_is w n)
  obtain ⟨ao, cap, hvv, _⟩ := hv.shape
  by_cases ha : n < 0 ∨ (X.is.length : Int) ≤ n ∨ l.length ≠ 256
  · refine same 1 ?_
    by_cases hr : 0 ≤ n ∧ n < X.ds.F.length
    · rw [decide_eq_true hr] at KH
      rw [decide_eq_true (by omega)] at KL
      have hl : ¬ (l.length : Int) = 256 := by omega
      obtain ⟨L, hL⟩ : ∃ L, L = l.length := ⟨_, rfl⟩
      rw [← hL] at hvv hl
      subst hvv
      clear h' hm hpl hp37 ho hlt hFl h768 same hv hn hwf ha hr hL
      go_enter Tryz.func19, Tryz.ntmps19
      go_wp2_with (first
        | (go_at_call 30; (with_reducible refine KA.out.mono ?_); rintro e w' ⟨rfl, rfl⟩)
        | (go_at_call 36; (with_reducible refine KH.out.mono ?_); rintro e w' ⟨rfl, rfl⟩)
        | (go_at_call 37; (with_reducible refine KL.out.mono ?_); rintro e w' ⟨rfl, rfl⟩))
      go_ret
      exact ⟨rfl, rfl⟩
    · rw [decide_eq_false hr] at KH
      clear h' hm hpl hp37 ho hlt hFl h768 same hv hn hwf ha hr KL
      go_enter Tryz.func19, Tryz.ntmps19
      go_wp2_with (first
        | (go_at_call 30; (with_reducible refine KA.out.mono ?_); rintro e w' ⟨rfl, rfl⟩)
        | (go_at_call 36; (with_reducible refine KH.out.mono ?_); rintro e w' ⟨rfl, rfl⟩))
      go_ret
      exact ⟨rfl, rfl⟩
  · have hr : 0 ≤ n ∧ n < X.ds.F.length := by omega
    have hl : l.length = 256 := by omega
    by_cases hf : n ∉ pk ∧ 37 ≤ pk.length
    · refine same 13 ?_
      rw [decide_eq_true hr] at KH
      rw [decide_eq_true (by omega)] at KL
      have c3 := hm.c3
      have hlo := hm.mp.look_ok hwf
      have hlen := fun ty => hm.mp.len ty
      rw [if_neg hf.1, decide_eq_false hf.1] at hlo
      have hm37 : 37 ≤ (pk.length : Int) := by omega
      obtain ⟨m, hmm⟩ : ∃ m, m = pk.length := ⟨_, rfl⟩
      rw [← hmm] at hlen hm37
      rw [hl] at hvv
      subst hvv
      clear h' hm hpl hp37 ho hlt hFl h768 same hv hn hwf ha hr hf hl hmm
      go_enter Tryz.func19, Tryz.ntmps19
      go_wp2_with (first
        | (go_at_call 30; (with_reducible refine KA.out.mono ?_); rintro e w' ⟨rfl, rfl⟩)
        | (go_at_call 36; (with_reducible refine KH.out.mono ?_); rintro e w' ⟨rfl, rfl⟩)
        | (go_at_call 37; (with_reducible refine KL.out.mono ?_); rintro e w' ⟨rfl, rfl⟩))
      go_ret
      exact ⟨rfl, rfl⟩
    · refine (sPut_mem hm hv hl hr (by omega) hp37 ?_).mono ?_
      · by_cases hin : n ∈ pk
        · exact .inl hin
        · refine .inr ?_
          have : ¬ 37 ≤ pk.length := fun h => hf ⟨hin, h⟩
          omega
      · rintro e w' ⟨rfl, u, hm', hu, hsz, hext⟩
        have hP : ∀ k, k = bp → P k := fun k e => ho k (.inr (.inr (.inr (.inl e))))
        refine ⟨0, grP P w w', rfl, ⟨b, be, bp, Pd, q, ek, eg, ev, addS pk n, _, _, rfl, hm', ?_, ?_, ?_, ?_⟩, (hext.sub hP).chg⟩
        · exact hpl.nil _
        · unfold addS
          split
          · exact hp37
          · rename_i hin
            have : ¬ 37 ≤ pk.length := fun h => hf ⟨hin, h⟩
            rw [List.length_append, List.length_singleton]; omega
        · intro k hk
          rcases hk with hk | rfl | rfl | rfl | ⟨x, hx, hg⟩ | ⟨x, hx, hg⟩
          · exact .inl (ho k (.inl hk))
          · exact .inl (ho _ (.inr (.inl rfl)))
          · exact .inl (ho _ (.inr (.inr (.inl rfl))))
          · exact .inl (ho _ (.inr (.inr (.inr (.inl rfl)))))
          · exact .inl (ho k (.inr (.inr (.inr (.inr (.inl ⟨x, hx, hg⟩))))))
          · by_cases e : x = n
            · have hg : (if x = n then u else pg x).ownBlock = some k := hg
              rw [if_pos e] at hg
              exact .inr (hu k hg)
            · have hg : (if x = n then u else pg x).ownBlock = some k := hg
              rw [if_neg e] at hg
              exact .inl (ho k (.inr (.inr (.inr (.inr (.inr ⟨x, (addS_mem.1 hx).resolve_right e, hg⟩))))))
        · rintro k (hk | hk)
          · exact Nat.lt_of_lt_of_le (hlt k hk) hsz
          · exact hk.2
end
section
variable {w0 W : World} {d p q vS : Value} {f : Bool} {N : Nat} {P M : Nat → Prop} {X : XSt} {r : RSt}
theorem Live.ubelow (h : Live SUnd w0 d p q f N W P M vS X r) {W' : World} (hb : Below W.heap.size W W') : Live SUnd w0 d p q f N W' P M vS X r :=
  ⟨h.inv.below hb, h.rso.below hb, h.rel, h.fu, h.len, h.sts, h.own, h.low.trans (hb.mono h.low.size)⟩
/-- A call begun, to be undone. -/
theorem Live.begun (h : Live SInv w0 d p q f N W P M vS X r) (hw : X.wi = false) : Calls Tryz.prog 15 #[p] W fun e W' => e = .returned (.int .i64 0) ∧ ∃ P' X', Live SUnd w0 d p q f N W' P' M vS X' r ∧ X'.wi = false := by
  have e1 : xBegin X = (0, { X with call := X.is, put := [], wi := true }) := by unfold xBegin; rw [hw]; rfl
  refine (sBegin_of h.inv).mono ?_
  rw [e1]
  rintro e W' ⟨rfl, P', hI, hc⟩
  have hU := SUnd.of hI rfl
  have h2 := h.turn (Inv2 := SInv) (W' := W') (P' := P') (X := X)
  have hrel : Rel { X with call := X.is, put := [], wi := false } r :=
    ⟨h.rel.wi.trans hw, h.rel.is, fun e => Bool.noConfusion (show false = true from e), h.rel.base, h.rel.last, h.rel.pl, h.rel.lens.1, fun e => Bool.noConfusion (show false = true from e)⟩
  have h3 : Live (fun _ _ _ _ _ => True) w0 d p q f N W' P' M vS X r := h.turn trivial hc
  exact ⟨rfl, P', _, ⟨hU, h3.rso, hrel, h.fu, h.len, h.sts, h3.own, h3.low⟩, rfl⟩
/-- A call ended in both stores. -/
theorem Live.ended (h : Live SInv w0 d p q false N W P M vS X r) {W2 W3 : World} {P' : Nat → Prop} {z : Int} {e : Ending} (hc : Chg P P' W W2) (ho : Out2 SInv SDead d p X r (rEnd r true) W2 P' z) (hs : ROut W2 P' M q vS r.sts (rEnd r true) e W3) :
    e = .returned (.int .i64 (rEnd r true).1) ∧ ∃ M' vS' X' r', Live SInv w0 d p q false (N + 1) W3 P' M' vS' X' r' ∧ X'.wi = false := by
  obtain ⟨M', vS', he, hr3, hcm, _⟩ := hs
  rcases ho with ⟨_, X', hI, hR, hf, hl⟩ | ⟨_, hf, _⟩
  · have hr2 := h.rso.chg hc
    have hcb : Chg (fun k => P k ∨ M k) (fun k => P' k ∨ M' k) W W3 := hc.both hcm
    obtain ⟨k1, k2⟩ := h.past hcb
    have hwi : (rEnd r true).2.wi = false := by
      unfold rEnd
      cases hh : r.wi
      · exact hh
      · rfl
    refine ⟨he, M', vS', X', _, ⟨landed.past hI hr2 hcm, hr3, hR, hf.trans h.fu, hl.trans h.len, ?_, k1, k2⟩, hR.wi.symm.trans hwi⟩
    have := h.sts
    unfold rEnd
    split
    · show r.sts.length ≤ _
      omega
    · rw [if_pos rfl]
      show (r.sts ++ [r.call]).length ≤ _
      simp; omega
  · rw [h.fu] at hf; cases hf
end
end Go.Proofs.YtigbhdgcjklhoaaGreat

/- The law's state: the first of some states that a store has (over the bundle). -/
namespace Go.Proofs.YtigbhdgcjklhoaaGreat
set_option maxRecDepth 100000
open Go.RowKit
set_option linter.unusedVariables false

section
variable {Inv : World → (Nat → Prop) → Value → Value → XSt → Prop} {Dead : World → (Nat → Prop) → Value → Value → DS → Prop} (S : Sto Inv Dead)
include S
set_option maxHeartbeats 2000000 in
theorem state11_of {w : World} {P M : Nat → Prop} {d p v : Value} {X : XSt} {LL : List (List (List Int))} {C : List (List Int)} (h : Inv w P d p X) (hC : C = (if X.wi = true then X.call else X.is)) (hl : ROld w P M v LL) (hvP : ∀ g, v.ownBlock = some g → ¬ P g) (hn : 0 < X.is.length ∧ X.is.length ≤ 2000) (hLL : LL.length ≤ 1000000) (hLn : ∀ j, j < LL.length → (LL.getD j []).length = X.is.length) (hex : ∃ j, j < LL.length ∧ ∀ i, i < X.is.length → OutJ i → C.getD i [] = (LL.getD j []).getD i []) :
    Calls Tryz.prog 14 #[p, v] w fun e w' => ∃ z L, e = .returned z ∧ (∃ Q, Inv w' Q d p X ∧ Chg P Q w w' ∧ BBa w' Q z L) ∧ L ∈ LL ∧ ∀ i, i < X.is.length → OutJ i → C.getD i [] = L.getD i [] := by
  obtain ⟨us, hul, hue, ho⟩ := hl
  have hLL0 : 0 < LL.length := by obtain ⟨j, hj, _⟩ := hex; omega
  rcases ho.2 with ⟨_, e0⟩ | ⟨g, cap, cur, rfl, _, hh, hnc, _, hcs, ht⟩
  · omega
  have hgP : ¬ P g := hvP g rfl
  have hgl : g < w.heap.size := (Array.getElem?_eq_some_iff.1 hh).1
  have hcell : ∀ j, j < LL.length → w.cell? ⟨g, j, none⟩ = some (us.getD j undef) := fun j hj => by
    rw [cell_of_row _ _ _ _ _ _ hh]
    have : (cur.toList.take (LL.length * 1))[j]? = us[j]? := by rw [ht]
    rw [List.getElem?_take, if_pos (by omega)] at this
    simpa [List.getD_eq_getElem?_getD, show j < us.length by omega] using this
  have HCE := Lib.hid (fun (W : World) (Q : Nat → Prop) (hq : Chg P Q w W) (j : Nat) (hj : j < LL.length) => show W.cell? ⟨g, j, none⟩ = some (us.getD j undef) from (World.cell?_of_block (a := ⟨g, j, none⟩) (hq.keep g hgl hgP).1).trans (hcell j hj))
  have HBB := Lib.hid (fun (W : World) (Q : Nat → Prop) (hq : Chg P Q w W) (j : Nat) (hj : j < LL.length) => show BBa W Q (us.getD j undef) (LL.getD j []) from ((hue j hj).sub fun x hx => .inl hx).chg hq)
  have KS := Lib.hid (fun (W : World) (Q : Nat → Prop) (hI : Inv W Q d p X) (hq : Chg P Q w W) (j : Nat) (hj : j < LL.length) (B : Bool) (hB : B = true ↔ ∀ i, i < X.is.length → OutJ i → C.getD i [] = (LL.getD j []).getD i []) =>
    same11_is S hI hC (HBB.out W Q hq j hj) (hLn j hj) (by rw [hLn j hj]; exact hn.1) (by rw [hLn j hj]; omega) B (by rw [hLn j hj]; exact hB))
  have HEX := Lib.hid hex
  have HMEM := Lib.hid (fun j (hj : j < LL.length) => show LL.getD j [] ∈ LL by
    rw [List.getD_eq_getElem?_getD, List.getElem?_eq_getElem hj]
    exact List.getElem_mem hj)
  have HDR := Lib.hid (fun (j : Nat) (hj : j < LL.length) => show ∃ ao c n, us.getD j undef = .slice ao n c by
    obtain ⟨ao, c, e, _⟩ := (hue j hj).sl.shape
    exact ⟨ao, c, _, e⟩)
  have HS0 : Hid (∃ Q, Inv w Q d p X ∧ Chg P Q w w) := Lib.hid ⟨P, h, Chg.refl _ _⟩
  obtain ⟨pb, rfl⟩ := S.ptr h
  obtain ⟨n, hnn⟩ : ∃ n, n = LL.length := ⟨_, rfl⟩
  rw [← hnn] at HCE HBB KS HEX HMEM HDR hLL ⊢
  have HBK := Lib.hid (fun (j : Nat) => Classical.em (∀ i, i < X.is.length → OutJ i → C.getD i [] = (LL.getD j []).getD i []))
  clear h hC hul hue ho hLL0 hh hnc hcs ht hgP hgl hcell hvP hLn hex hnn
  go_enter Tryz.func14, Tryz.ntmps14
  go_wp2
  go_loopw [8] (fun i wr => ∃ k : Nat, k ≤ n ∧ i = .int .i64 k ∧ Hid (∃ Q, Inv wr Q d (.pointer (some ⟨pb, 0, none⟩)) X ∧ Chg P Q w wr) ∧ Hid (∀ j, j < k → ¬ ∀ i, i < X.is.length → OutJ i → C.getD i [] = (LL.getD j []).getD i [])) (fun i _ => n - (intOf i).toNat)
  case atStart => exact ⟨0, by omega, rfl, HS0, fun j hj => absurd hj (Nat.not_lt_zero _)⟩
  case round =>
    obtain ⟨k, hk, rfl, HI, HK⟩ := hrel
    clear HS0
    by_cases hlt : k < n
    · obtain ⟨Q, hI, hcQ⟩ := HI.out
      have ek : (k : Int) < (n : Int) := by omega
      have ce := HCE.out wr Q hcQ k hlt
      obtain ⟨ao, cc, nn, hsh⟩ := HDR.out k hlt
      have HSH := Lib.hid hsh
      rw [hsh] at ce
      rcases HBK.out k with hy | hno
      · have KG := Lib.hid (KS.out wr Q hI hcQ k hlt true ⟨fun _ => hy, fun _ => rfl⟩)
        rw [hsh] at KG
        have HF := Lib.hid (fun (w2 : World) (P2 : Nat → Prop) (hI2 : Inv w2 P2 d (.pointer (some ⟨pb, 0, none⟩)) X) (hc2 : Chg Q P2 wr w2) => show ∃ Q, Inv w2 Q d (.pointer (some ⟨pb, 0, none⟩)) X ∧ Chg P Q w w2 ∧ BBa w2 Q (.slice ao nn cc) (LL.getD k []) from ⟨P2, hI2, hcQ.trans hc2, by rw [← hsh]; exact HBB.out w2 P2 (hcQ.trans hc2) k hlt⟩)
        have HC2 := Lib.hid (fun (w2 : World) (P2 : Nat → Prop) (hc2 : Chg Q P2 wr w2) => (HCE.out w2 P2 (hcQ.trans hc2) k hlt).trans (congrArg some hsh))
        have HY := Lib.hid hy
        clear hI hcQ hsh hy
        go_wp2_with (first
          | (go_at_call 29; (with_reducible refine KG.out.mono ?_); rintro e w2 ⟨rfl, P2, hI2, hc2⟩
             have ce2 := HC2.out w2 P2 hc2
             have HFF := Lib.hid (HF.out w2 P2 hI2 hc2)
             clear hI2 hc2))
        go_ret
        exact ⟨_, LL.getD k [], rfl, HFF.out, HMEM.out k hlt, HY.out⟩
      · have KG := Lib.hid (KS.out wr Q hI hcQ k hlt false ⟨fun e => (by cases e), fun e => absurd e hno⟩)
        rw [hsh] at KG
        have HF := Lib.hid (fun (w2 : World) (P2 : Nat → Prop) (hI2 : Inv w2 P2 d (.pointer (some ⟨pb, 0, none⟩)) X) (hc2 : Chg Q P2 wr w2) => show ∃ Q, Inv w2 Q d (.pointer (some ⟨pb, 0, none⟩)) X ∧ Chg P Q w w2 from ⟨P2, hI2, hcQ.trans hc2⟩)
        have HNO := Lib.hid hno
        clear hI hcQ hsh hno
        go_wp2_with (first
          | (go_at_call 29; (with_reducible refine KG.out.mono ?_); rintro e w2 ⟨rfl, P2, hI2, hc2⟩
             have HFF := Lib.hid (HF.out w2 P2 hI2 hc2)
             clear hI2 hc2))
        go_roundw
        case rel => exact ⟨k + 1, by omega, by go_num, HFF.out, fun j hj => by
          by_cases e : j = k
          · subst e; exact HNO.out
          · exact HK.out j (by omega)⟩
        case measure => simp [intOf]; omega
    · obtain rfl : k = n := by omega
      obtain ⟨j, hj, hy⟩ := HEX.out
      exact absurd hy (HK.out j hj)
end
end Go.Proofs.YtigbhdgcjklhoaaGreat
