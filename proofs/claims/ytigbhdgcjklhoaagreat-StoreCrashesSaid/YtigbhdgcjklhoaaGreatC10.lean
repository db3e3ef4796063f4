/- Values that are apart from a disk: numbers, blocks, transactions; they stay behind what the disk does. -/
import Derived.Test.YtigbhdgcjklhoaaGreatC3
import Derived.Test.YtigbhdgcjklhoaaGreatC7
import Derived.Test.YtigbhdgcjklhoaaGreatC8
import Derived.Test.YtigbhdgcjklhoaaGreatC9
namespace Go.Proofs.YtigbhdgcjklhoaaGreat
set_option maxRecDepth 100000
open Go.RowKit
set_option linter.unusedVariables false

theorem ISc.chg {P P' : Nat → Prop} {w w' : World} {v : Value} {l : List Int} (h : ISc w v l) (ha : Apt P v) (hc : Chg P P' w w') : ISc w' v l ∧ Apt P' v :=
  ⟨⟨(h.1.chg ha hc).1, h.2⟩, (h.1.chg ha hc).2⟩
theorem KSl.apt_low {w : World} {B : Nat} {P : Nat → Prop} {v : Value} {l : List Bool} (h : KSl w v l) (hB : w.heap.size ≤ B) (hP : ∀ k, P k → B ≤ k) : Apt P v := by
  intro ad n cap e hn hp
  rcases h with ⟨hv, _⟩ | ⟨a, c, hv, hc⟩
  · rw [hv] at e; cases e
  · rw [hv] at e
    obtain ⟨rfl, rfl⟩ : a = ad ∧ l.length = n := ⟨Option.some.inj (Value.slice.inj e).1, (Value.slice.inj e).2.1⟩
    have := (hc 0 hn).1
    have := hP _ hp
    omega
/-- The rows of a disk hold what a disk holds. -/
theorem Dk.types {w : World} {P : Nat → Prop} {p : Value} {s : DS} (h : Dk w P p s) (k : Nat) (hk : P k) : ∃ cur T, w.heap[k]? = some (.cells cur T (0, 0)) ∧ (T = 51 ∨ T = 93 ∨ T = 95) := by
  obtain ⟨bp, bf, bv, u, _, hd, _, hP⟩ := h
  rcases (hP k).1 hk with rfl | rfl | rfl | hu
  · exact ⟨_, _, hd.hp, .inl rfl⟩
  · exact ⟨_, _, hd.hf, .inr (.inl rfl)⟩
  · exact ⟨_, _, hd.hv, .inr (.inl rfl)⟩
  · rcases hd.hu.2 with ⟨h0, _⟩ | ⟨g, cap, cur, hv, _, hh, _⟩
    · rw [h0] at hu; simp [Value.ownBlock] at hu
    · rw [hv] at hu
      obtain rfl : g = k := by simpa [Value.ownBlock] using hu
      exact ⟨_, _, hh, .inr (.inr rfl)⟩
theorem Dk.not {w : World} {P : Nat → Prop} {p : Value} {s : DS} (h : Dk w P p s) {k : Nat} {cur : Array Value} {T : TypeId} (hk : w.heap[k]? = some (.cells cur T (0, 0))) (h1 : T ≠ 51) (h2 : T ≠ 93) (h3 : T ≠ 95) : ¬ P k := fun hp => by
  obtain ⟨cur', T', he, ht⟩ := h.types k hp
  rw [hk] at he
  injection he with he
  injection he with _ e
  subst e
  rcases ht with ht | ht | ht
  · exact h1 ht
  · exact h2 ht
  · exact h3 ht
/-- Rows of one's own, of bytes, of numbers, of slices, are apart from a disk. -/
theorem OB.apt {w : World} {P : Nat → Prop} {p : Value} {s : DS} (h : Dk w P p s) {B : Nat} {v : Value} {l : List Int} (ho : OB w B v l) : Apt P v := by
  intro ad n cap e hn
  rcases ho.2.2 with ⟨hv, _⟩ | ⟨g, c, cur, hv, _, hh, _⟩
  · rw [hv] at e; cases e
  · rw [hv] at e
    obtain rfl := Option.some.inj (Value.slice.inj e).1
    exact h.not hh (by decide) (by decide) (by decide)
theorem BElt.apt {w : World} {P : Nat → Prop} {p : Value} {s : DS} (h : Dk w P p s) {v : Value} {l : List Int} (ho : BElt w 0 v l) : Apt P v := by
  intro ad n cap e hn
  rcases ho.1.2 with ⟨hv, _⟩ | ⟨a, c, hv, _, hc⟩
  · rw [hv] at e; cases e
  · have e' := e
    rw [hv] at e'
    have hl : 0 < l.length := by rw [(Value.slice.inj e').2.1]; exact hn
    obtain ⟨b, off, c', hv', _, hor⟩ := ho.2 hl
    rw [hv'] at e
    obtain rfl := Option.some.inj (Value.slice.inj e).1
    rcases hor with h0 | ⟨cur, hh⟩
    · omega
    · exact h.not hh (by decide) (by decide) (by decide)
theorem IR.apt {w : World} {P : Nat → Prop} {p : Value} {s : DS} (h : Dk w P p s) {B : Nat} {v : Value} {l : List Int} (ho : IR w B v l) : Apt P v := by
  intro ad n cap e hn
  rcases ho.2 with ⟨hv, _⟩ | ⟨g, c, cur, hv, _, hh, _⟩
  · rw [hv] at e; cases e
  · rw [hv] at e
    obtain rfl := Option.some.inj (Value.slice.inj e).1
    exact h.not hh (by decide) (by decide) (by decide)
theorem BBR.apart {w : World} {P : Nat → Prop} {p : Value} {s : DS} (h : Dk w P p s) {v : Value} {L : List (List Int)} (ho : BBR w 0 v L) : BBa w P v L := by
  obtain ⟨vs, hl, hr, ow⟩ := ho
  rcases ow.2 with ⟨hv, hl0⟩ | ⟨g, cap, cur, hv, hg, hh, hnc, hcm, hcs, ht⟩
  · exact .inl ⟨hv, List.eq_nil_of_length_eq_zero hl0⟩
  · refine .inr ⟨_, cap, hv, hnc, fun j hj => ⟨⟨(Array.getElem?_eq_some_iff.1 hh).1, h.not hh (by decide) (by decide) (by decide)⟩, rfl, vs.getD j undef, ?_, (hr j hj).1, (hr j hj).apt h⟩⟩
    show w.cell? ⟨g, 0 + j, none⟩ = _
    rw [Nat.zero_add, cell_of_row _ _ _ _ _ _ hh]
    have : (cur.toList.take (L.length * 1))[j]? = vs[j]? := by rw [ht]
    rw [List.getElem?_take, if_pos (by omega)] at this
    simpa [List.getD_eq_getElem?_getD, show j < vs.length by omega] using this
/-- A transaction's value, apart from P's blocks. -/
def TxVa (w : World) (P : Nat → Prop) (v : Value) (q : Int) (N : List Int) (D : List (List Int)) : Prop :=
  ∃ no nc ao dc, v = .agg #[.int .u32 q, .slice no N.length nc, .slice ao D.length dc] ∧ (ISc w (.slice no N.length nc) N ∧ Apt P (.slice no N.length nc)) ∧ BBa w P (.slice ao D.length dc) D
theorem TxVa.v {w : World} {P : Nat → Prop} {v : Value} {q : Int} {N : List Int} {D : List (List Int)} (h : TxVa w P v q N D) : TxV w v q N D := by
  obtain ⟨no, nc, ao, dc, h1, h2, h3⟩ := h
  exact ⟨no, nc, ao, dc, h1, h2.1, h3.sl⟩
theorem TxVa.chg {P P' : Nat → Prop} {w w' : World} {v : Value} {q : Int} {N : List Int} {D : List (List Int)} (h : TxVa w P v q N D) (hc : Chg P P' w w') : TxVa w' P' v q N D := by
  obtain ⟨no, nc, ao, dc, h1, h2, h3⟩ := h
  exact ⟨no, nc, ao, dc, h1, h2.1.chg h2.2 hc, h3.chg hc⟩
theorem TxV.apart_low {w : World} {B : Nat} {P : Nat → Prop} {v : Value} {q : Int} {N : List Int} {D : List (List Int)} (h : TxV w v q N D) (hB : w.heap.size ≤ B) (hP : ∀ k, P k → B ≤ k) : TxVa w P v q N D := by
  obtain ⟨no, nc, ao, dc, h1, h2, h3⟩ := h
  exact ⟨no, nc, ao, dc, h1, ⟨h2, h2.1.apt_low hB hP⟩, h3.apart_low hB hP⟩
theorem TxVa.own {w : World} {P : Nat → Prop} {p : Value} {s : DS} (h : Dk w P p s) {q : Int} {vN vD : Value} {N : List Int} {D : List (List Int)} (hN : IR w 0 vN N) (hD : BBR w 0 vD D) : TxVa w P (.agg #[.int .u32 q, vN, vD]) q N D := by
  have hN' := hN.isc
  have hD' := hD.apart h
  have ha := hN.apt h
  obtain ⟨_, no, nc, rfl, _⟩ := hN'
  obtain ⟨ao, dc, rfl, _⟩ := hD'.sl.shape
  exact ⟨no, nc, ao, dc, rfl, ⟨hN.isc, ha⟩, hD'⟩
end Go.Proofs.YtigbhdgcjklhoaaGreat

/- Contracts of package log: usable, has, takes. -/
namespace Go.Proofs.YtigbhdgcjklhoaaGreat
set_option maxRecDepth 100000
open Go.RowKit
set_option linter.unusedVariables false

/-- All numbers lie below n. -/
def hasN (n : Nat) (N : List Int) : Bool := (List.range N.length).all fun k => decide (N.getD k 0 < (n : Int))
theorem hasN_iff (n : Nat) (N : List Int) : hasN n N = true ↔ ∀ k, k < N.length → N.getD k 0 < (n : Int) := by
  unfold hasN
  rw [List.all_eq_true]
  exact ⟨fun h k hk => of_decide_eq_true (h k (List.mem_range.2 hk)), fun h k hk => decide_eq_true (h k (List.mem_range.1 hk))⟩
theorem hasN_no {n : Nat} {N : List Int} (k : Nat) (hk : k < N.length) (h : ¬ N.getD k 0 < (n : Int)) : hasN n N = false := by
  cases e : hasN n N
  · rfl
  · exact absurd ((hasN_iff n N).1 e k hk) h
section
variable {w : World} {P : Nat → Prop} {p : Value} {s : DS}
theorem gUsable_is (h : Dk w P p s) (B : Bool) (hB : decide (64 ≤ s.F.length) = B) : Calls Tryz.prog 47 #[p] w fun e w' => e = .returned (.bool B) ∧ w = w' := by
  have KB := Lib.hid (kBlocks h)
  obtain ⟨bp, rfl⟩ := h.ptr
  generalize s.F.length = n at KB hB
  have hB2 : decide ((64 : Int) ≤ (n : Int)) = B := by rw [← hB]; exact decide_eq_decide.2 (by omega)
  have HB := Lib.hid (congrArg (fun b => Ending.returned (Value.bool b)) hB2)
  clear h hB hB2
  go_enter Tryz.func47, Tryz.ntmps47
  go_wp2_with (go_at_call 55; (with_reducible refine KB.out.mono ?_); rintro e w2 ⟨rfl, rfl⟩)
  go_ret
  exact ⟨HB.out, rfl⟩
theorem gHas_is (h : Dk w P p s) {v : Value} {N : List Int} (hs : ISl w v N) (hN : N.length ≤ 1000000) (B : Bool) (hB : hasN s.F.length N = B) : Calls Tryz.prog 49 #[p, v] w fun e w' => e = .returned (.bool B) ∧ w = w' := by
  have KB := Lib.hid (kBlocks h)
  obtain ⟨bp, rfl⟩ := h.ptr
  obtain ⟨ao, cap, rfl, hc⟩ := hs.open'
  have hno := fun k hk h => hasN_no (n := s.F.length) (N := N) k hk h
  have hyes := (hasN_iff s.F.length N).2
  rw [hB] at hno hyes
  generalize s.F.length = z at KB hno hyes
  obtain ⟨n, hn⟩ : ∃ n, n = N.length := ⟨_, rfl⟩
  rw [← hn] at hc hno hyes hN ⊢
  have HC := Lib.hid hc
  have HNO := Lib.hid hno
  have HYE := Lib.hid hyes
  clear h hs hc hno hyes hB hn
  go_enter Tryz.func49, Tryz.ntmps49
  go_wp2
  go_loop [9] (fun i => ∃ k : Nat, k ≤ n ∧ i = .int .i64 k ∧ Hid (∀ j, j < k → N.getD j 0 < (z : Int))) (fun i => n - (intOf i).toNat)
  case atStart => exact ⟨0, by omega, rfl, fun j hj => absurd hj (Nat.not_lt_zero _)⟩
  case round =>
    obtain ⟨k, hk, rfl, HK⟩ := hrel
    by_cases hlt : k < n
    · obtain ⟨b, off, rfl, _, hcc⟩ := HC.out (by omega)
      have hck := hcc k hlt
      have hn1 := HNO.out k hlt
      obtain ⟨x, hx⟩ : ∃ x, x = N.getD k 0 := ⟨_, rfl⟩
      rw [← hx] at hck hn1
      have HX := Lib.hid hx
      have HN1 := Lib.hid hn1
      have ek : (k : Int) < (n : Int) := by omega
      clear hx hcc hn1
      by_cases hf : x < (z : Int)
      · have h1 : ¬ (z : Int) ≤ x := by omega
        go_wp2_with (go_at_call 55; (with_reducible refine KB.out.mono ?_); rintro e w2 ⟨rfl, rfl⟩)
        go_round
        case rel =>
          refine ⟨k + 1, by omega, by go_num, fun j hj => ?_⟩
          by_cases e : j = k
          · subst e; rw [← HX.out]; exact hf
          · exact HK.out j (by omega)
        case measure => simp [intOf]; omega
      · have h1 : (z : Int) ≤ x := by omega
        have hR := HN1.out (by first | exact hf | exact h1)
        subst hR
        go_wp2_with (go_at_call 55; (with_reducible refine KB.out.mono ?_); rintro e w2 ⟨rfl, rfl⟩)
        go_ret
        exact ⟨rfl, rfl⟩
    · obtain rfl : k = n := by omega
      have hR := HYE.out HK.out
      subst hR
      go_wp2
      go_ret
      exact ⟨rfl, rfl⟩
/-- Does a disk of n blocks take this transaction? -/
def takesT (n : Nat) (N : List Int) (D : List (List Int)) : Bool := decide (64 ≤ n) && (frmT N D && hasN n N)
theorem gTakes_is (h : Dk w P p s) {v : Value} {q : Int} {N : List Int} {D : List (List Int)} (hv : TxV w v q N D) (B : Bool) (hB : takesT s.F.length N D = B) :
    Calls Tryz.prog 50 #[p, v] w fun e w' => e = .returned (.bool B) ∧ Below w.heap.size w w' := by
  have hv' := hv
  obtain ⟨no, nc, ao, dc, rfl, hN, hD⟩ := hv
  have KU := Lib.hid (fun W (hb : Below w.heap.size w W) B hB => gUsable_is (h.below hb) B hB)
  have KF := Lib.hid (fun W (hb : Below w.heap.size w W) B hB => tForm_is (hv'.below hb) B hB)
  have KH := Lib.hid (fun (hY : frmT N D = true) W (hb : Below w.heap.size w W) B hB => gHas_is (h.below hb) (hN.below hb).1 (by have := (frmT_of hY).1; omega) B hB)
  obtain ⟨bp, rfl⟩ := h.ptr
  unfold takesT at hB
  generalize s.F.length = z at KU KH hB
  obtain ⟨n, hn⟩ : ∃ n, n = N.length := ⟨_, rfl⟩
  obtain ⟨m, hm⟩ : ∃ m, m = D.length := ⟨_, rfl⟩
  rw [← hn, ← hm] at KF
  rw [← hn] at KH
  rw [← hn, ← hm]
  have hbx := below_box w (.cells #[.int .u32 q, .slice no n nc, .slice ao m dc] 71)
  have hnx := heap_alloc_new w (.cells #[.int .u32 q, .slice no n nc, .slice ao m dc] 71)
  clear hN hD hn hm hv' h
  go_enter Tryz.func50, Tryz.ntmps50
  go_upto_region 1 with (fail)
  generalize w.alloc (.cells #[.int .u32 q, .slice no n nc, .slice ao m dc] 71) = u at hbx hnx ⊢
  have KU1 := Lib.hid (KU.out _ hbx)
  have KF1 := Lib.hid (KF.out _ hbx)
  have d0 : u.cell? ⟨w.heap.size, 0, none⟩ = some (.int .u32 q) := by rw [cell_of_row _ _ _ _ _ _ hnx]; rfl
  have d1 : u.cell? ⟨w.heap.size, 1, none⟩ = some (.slice no n nc) := by rw [cell_of_row _ _ _ _ _ _ hnx]; rfl
  have d2 : u.cell? ⟨w.heap.size, 2, none⟩ = some (.slice ao m dc) := by rw [cell_of_row _ _ _ _ _ _ hnx]; rfl
  have hzu : w.heap.size < u.heap.size := (Array.getElem?_eq_some_iff.1 hnx).1
  have C1 := Lib.hid (fun W (h : Below u.heap.size u W) => (h.cell (p := ⟨w.heap.size, 1, none⟩) hzu).trans d1)
  have HBT := Lib.hid (fun W (h : Below u.heap.size u W) => hbx.trans (h.mono hbx.size))
  clear hnx KU KF hzu hbx
  generalize decide (64 ≤ z) = X at hB KU1
  obtain ⟨Y, hFX⟩ : ∃ Y, frmT N D = Y := ⟨_, rfl⟩
  obtain ⟨Z, hHX⟩ : ∃ Z, hasN z N = Z := ⟨_, rfl⟩
  rw [hFX, hHX] at hB
  rw [hFX] at KF1
  have KH2 := Lib.hid (fun hY W hb => KH.out hY W hb Z hHX)
  have KU2 := Lib.hid (KU1.out X rfl)
  have KF2 := Lib.hid (KF1.out Y rfl)
  have HFX := Lib.hid hFX
  clear KU1 KF1 KH hFX hHX
  cases X
  · rw [Bool.false_and] at hB
    subst hB
    go_wp2_with (go_at_call 47; (with_reducible refine KU2.out.mono ?_); rintro e w2 ⟨rfl, rfl⟩)
    go_ret
    exact ⟨rfl, HBT.out _ (Below.refl _ _)⟩
  · cases Y
    · rw [Bool.false_and, Bool.true_and] at hB
      subst hB
      go_wp2_with (first
        | (go_at_call 47; (with_reducible refine KU2.out.mono ?_); rintro e w2 ⟨rfl, rfl⟩)
        | (go_at_call 65; (with_reducible refine KF2.out.mono ?_); rintro e w3 ⟨rfl, hb3⟩))
      go_ret
      exact ⟨rfl, HBT.out _ hb3⟩
    · rw [Bool.true_and, Bool.true_and] at hB
      subst hB
      go_wp2_with (first
        | (go_at_call 47; (with_reducible refine KU2.out.mono ?_); rintro e w2 ⟨rfl, rfl⟩)
        | (go_at_call 65; (with_reducible refine KF2.out.mono ?_); rintro e w3 ⟨rfl, hb3⟩
           have e1 := C1.out _ hb3
           have HB3 := Lib.hid (HBT.out _ hb3)
           clear hb3)
        | (go_at_call 49; (with_reducible refine (KH2.out HFX.out _ HB3.out).mono ?_); rintro e w4 ⟨rfl, rfl⟩))
      go_ret
      exact ⟨rfl, HB3.out⟩
end
end Go.Proofs.YtigbhdgcjklhoaaGreat

/- Contracts of package log: journal. -/
namespace Go.Proofs.YtigbhdgcjklhoaaGreat
set_option maxRecDepth 100000
open Go.RowKit
set_option linter.unusedVariables false

theorem Apt.mono {P Q : Nat → Prop} {v : Value} (h : Apt P v) (hq : ∀ k, Q k → P k) : Apt Q v := fun ad n cap e hn hk => h ad n cap e hn (hq _ hk)
theorem Chg.of_wrote1 {w w' : World} {g : Nat} (h : Wrote w w' g) : Chg (fun b => b = g) (fun b => b = g) w w' :=
  ⟨h.1, h.2.1, h.2.2.1, Nat.le_of_eq h.2.2.2.1.symm, fun k _ hn => ⟨h.2.2.2.2 k hn, hn⟩⟩
/-- A row of []byte at block g, of which k are laid, each apart from P and from the row. -/
def RowA (w : World) (g : Nat) (P : Nat → Prop) (n : Nat) (D : List (List Int)) (k : Nat) : Prop :=
  ∃ vs : List Value, vs.length = n ∧ w.heap[g]? = some (.cells vs.toArray 59 (0, 0)) ∧ ∀ j, j < k → BSl w (vs.getD j undef) (D.getD j []) ∧ Apt P (vs.getD j undef) ∧ Apt (fun b => b = g) (vs.getD j undef)
theorem RowA.make (w : World) (P : Nat → Prop) (n : Nat) (D : List (List Int)) : RowA (w.alloc (.cells (Array.replicate n (Value.slice none 0 0)) 59)) w.heap.size P n D 0 :=
  ⟨List.replicate n (Value.slice none 0 0), List.length_replicate, by rw [heap_alloc_new]; simp, fun j hj => absurd hj (Nat.not_lt_zero _)⟩
theorem RowA.row {w : World} {g n : Nat} {P : Nat → Prop} {D : List (List Int)} {k : Nat} (h : RowA w g P n D k) : ∃ vs : List Value, vs.length = n ∧ w.heap[g]? = some (.cells vs.toArray 59 (0, 0)) := by
  obtain ⟨vs, h1, h2, _⟩ := h
  exact ⟨vs, h1, h2⟩
theorem RowA.below {w w' : World} {g n : Nat} {P : Nat → Prop} {D : List (List Int)} {k : Nat} (h : RowA w g P n D k) (hb : Below w.heap.size w w') : RowA w' g P n D k := by
  obtain ⟨vs, h1, h2, h3⟩ := h
  have hg : g < w.heap.size := (Array.getElem?_eq_some_iff.1 h2).1
  exact ⟨vs, h1, (hb.block g hg).trans h2, fun j hj => ⟨(h3 j hj).1.below hb, (h3 j hj).2⟩⟩
theorem RowA.set {w : World} {g n : Nat} {P : Nat → Prop} {D : List (List Int)} {k : Nat} (h : RowA w g P n D k) (hk : k < n) {y : Value} (hy : BSl w y (D.getD k [])) (h1 : Apt P y) (h2 : Apt (fun b => b = g) y) : RowA (w.setCell ⟨g, k, none⟩ y) g P n D (k + 1) := by
  obtain ⟨vs, e1, e2, e3⟩ := h
  have hc := Chg.of_wrote1 (Wrote.setCell w g k y)
  refine ⟨vs.set k y, by rw [List.length_set]; exact e1, bb_set e2 k y, fun j hj => ?_⟩
  by_cases e : j = k
  · subst e
    have e4 : (vs.set j y).getD j undef = y := by simp [List.getD_eq_getElem?_getD, e1, hk]
    rw [e4]
    exact ⟨(hy.chg h2 hc).1, h1, h2⟩
  · have e4 : (vs.set k y).getD j undef = vs.getD j undef := by
      rw [List.getD_eq_getElem?_getD, List.getElem?_set_ne (by omega), ← List.getD_eq_getElem?_getD]
    rw [e4]
    obtain ⟨m1, m2, m3⟩ := e3 j (by omega)
    exact ⟨(m1.chg m3 hc).1, m2, m3⟩
theorem RowA.done {w : World} {g n : Nat} {P : Nat → Prop} {D : List (List Int)} (h : RowA w g P n D n) (hD : D.length = n) (hP : ¬ P g) : BBa w P (.slice (some ⟨g, 0, none⟩) n n) D := by
  obtain ⟨vs, h1, h2, h3⟩ := h
  subst hD
  refine .inr ⟨_, D.length, rfl, Nat.le_refl _, fun j hj => ⟨⟨(Array.getElem?_eq_some_iff.1 h2).1, hP⟩, rfl, vs.getD j undef, ?_, (h3 j hj).1, (h3 j hj).2.1⟩⟩
  show w.cell? ⟨g, 0 + j, none⟩ = _
  rw [Nat.zero_add, cell_of_row _ _ _ _ _ _ h2]
  simp [List.getD_eq_getElem?_getD, show j < vs.length by omega]
section
variable {w : World} {P : Nat → Prop} {p : Value} {s : DS}
theorem gJour_of (h : Dk w P p s) (h64 : 64 ≤ s.F.length) (hd : s.dn = false) :
    Calls Tryz.prog 31 #[p] w fun e w' => ∃ ao cap, e = .returned (.tuple #[.slice ao 40 cap, .int .i64 0]) ∧ BBa w' P (.slice ao 40 cap) (jour s.vis) ∧ Below w.heap.size w w' := by
  have hlt := fun k hk => h.lt k hk
  have KU := Lib.hid (gUsable_is h true (decide_eq_true h64))
  have hjl : (jour s.vis).length = 40 := jour_length (by rw [DS.vis_length]; omega)
  have KR := Lib.hid (fun W (hb : Below w.heap.size w W) (k : Nat) (hk : k < 40) => (kRead (h.below hb) (3 + k) (by omega) hd))
  have HJ := Lib.hid (fun (k : Nat) (hk : k < 40) => jour_get s.vis k hk)
  have HDN := Lib.hid (fun W (hr : RowA W w.heap.size P 40 (jour s.vis) 40) => hr.done hjl (fun hp => Nat.lt_irrefl _ (hlt _ hp)))
  obtain ⟨bp, rfl⟩ := h.ptr
  obtain ⟨D, hD⟩ : ∃ D, D = jour s.vis := ⟨_, rfl⟩
  rw [← hD] at HJ HDN ⊢
  have HLT := Lib.hid hlt
  have hbx := below_box w (.cells (Array.replicate 40 (Value.slice none 0 0)) 59)
  have hr0 := RowA.make w P 40 D
  clear h h64 hd hjl hD hlt
  go_enter Tryz.func31, Tryz.ntmps31
  go_wp2_with (first
    | (go_at_call 47; (with_reducible refine KU.out.mono ?_); rintro e w2 ⟨rfl, rfl⟩)
    | (at_make; refine wpList_make_bb w rfl _ _ rfl (40 : Int) 40 rfl rfl rfl (by omega) ?_))
  generalize w.alloc (.cells (Array.replicate 40 (Value.slice none 0 0)) 59) = w1 at hbx hr0 ⊢
  have HR0 := Lib.hid hr0
  have HBX := Lib.hid hbx
  obtain ⟨g, hg⟩ : ∃ g, g = w.heap.size := ⟨_, rfl⟩
  rw [← hg] at HR0 HDN ⊢
  have HG := Lib.hid hg
  clear hr0 hbx hg
  go_loopw [14] (fun i wr => ∃ k : Nat, k ≤ 40 ∧ i = .int .i64 k ∧ Hid (RowA wr g P 40 D k) ∧ Hid (Below w.heap.size w wr)) (fun i _ => 40 - (intOf i).toNat)
  case atStart => exact ⟨0, by omega, rfl, HR0, HBX⟩
  case round =>
    obtain ⟨k, hk, rfl, HR, HB⟩ := hrel
    clear HR0 HBX
    by_cases hlt : k < 40
    · have KC := Lib.hid (KR.out _ HB.out k hlt)
      have ek : (k : Int) < 40 := by omega
      have e3 : ((3 + k : Nat) : Int) = 3 + (k : Int) := by push_cast; rfl
      rw [e3] at KC
      clear e3
      go_wp2_with (go_at_call 43; (with_reducible refine KC.out.mono ?_); rintro e w2 ⟨y, rfl, hoy, hb2, hy⟩
                   have hsz := HB.out.size
                   have hr2 := HR.out.below hb2
                   have HA1 : Hid (Apt P y) := Lib.hid (by rw [hy]; exact Apt.new (fun hp => by have := HLT.out _ hp; omega))
                   have HA2 : Hid (Apt (fun b => b = g) y) := Lib.hid (by
                     rw [hy]
                     refine Apt.new (fun hp => ?_)
                     obtain ⟨vs, _, hvr⟩ := HR.out.row
                     have := (Array.getElem?_eq_some_iff.1 hvr).1
                     omega)
                   rw [← HJ.out k hlt] at hoy
                   obtain ⟨yo, yc, hys, _⟩ := hoy.shape
                   have HY := Lib.hid hoy
                   subst hys
                   generalize (D.getD k []).length = yl at HY HA1 HA2 ⊢
                   clear hy hoy
                   have HR2 := Lib.hid hr2
                   obtain ⟨vs2, hvl2, hvr2⟩ := hr2.row
                   have hf2 := bb_free hvr2 k
                   have hc2 : ∃ z, w2.cell? ⟨g, k, none⟩ = some z := ⟨vs2[k]'(by omega), by rw [cell_of_row _ _ _ _ _ _ hvr2]; simp [hvl2, hlt]⟩
                   obtain ⟨z, hz⟩ := hc2
                   have HB2 := Lib.hid (HB.out.trans (hb2.mono HB.out.size))
                   clear hr2 hvl2 hvr2 hb2 hsz)
      go_roundw
      case rel => exact ⟨k + 1, by omega, by go_num, HR2.out.set hlt HY.out HA1.out HA2.out, (HB2.out.trans ((Wrote.setCell w2 g k _).below (by rw [HG.out]; exact Nat.le_refl _)))⟩
      case measure => simp [intOf]; omega
    · obtain rfl : k = 40 := by omega
      go_wp2
      go_ret2
      exact ⟨_, _, rfl, HDN.out _ HR.out, HB.out⟩
/-- A disk without its power. -/
theorem gJour_off (h : Dk w P p s) (h64 : 64 ≤ s.F.length) (hd : s.dn = true) :
    Calls Tryz.prog 31 #[p] w fun e w' => e = .returned (.tuple #[.slice none 0 0, .int .i64 2]) ∧ Below w.heap.size w w' := by
  have KU := Lib.hid (gUsable_is h true (decide_eq_true h64))
  have KR := Lib.hid (fun W (hb : Below w.heap.size w W) => (kRead_off (h.below hb) 3 (by omega) hd))
  obtain ⟨bp, rfl⟩ := h.ptr
  have hbx := below_box w (.cells (Array.replicate 40 (Value.slice none 0 0)) 59)
  clear h h64 hd
  go_enter Tryz.func31, Tryz.ntmps31
  go_wp2_with (first
    | (go_at_call 47; (with_reducible refine KU.out.mono ?_); rintro e w2 ⟨rfl, rfl⟩)
    | (at_make; refine wpList_make_bb w rfl _ _ rfl (40 : Int) 40 rfl rfl rfl (by omega) ?_))
  generalize w.alloc (.cells (Array.replicate 40 (Value.slice none 0 0)) 59) = w1 at hbx ⊢
  have KC := Lib.hid (KR.out _ hbx)
  have HB := Lib.hid hbx
  clear KR hbx
  go_loopw [14] (fun i wr => i = .int .i64 0 ∧ wr = w1) (fun i _ => 0)
  case atStart => exact ⟨rfl, rfl⟩
  case round =>
    obtain ⟨rfl, rfl⟩ := hrel
    go_wp2_with (go_at_call 43; (with_reducible refine KC.out.mono ?_); rintro e w2 ⟨rfl, rfl⟩)
    go_ret2
    exact ⟨rfl, HB.out⟩
end
end Go.Proofs.YtigbhdgcjklhoaaGreat

/- Contracts of package log: stored, Read. -/
namespace Go.Proofs.YtigbhdgcjklhoaaGreat
set_option maxRecDepth 100000
open Go.RowKit
set_option linter.unusedVariables false

theorem isTxn_one {L : List (List Int)} {q q' : Int} {N N' : List Int} {D D' : List (List Int)} (h : isTxn L q N D) (h' : isTxn L q' N' D') : q = q' ∧ N = N' ∧ D = D' := by
  obtain ⟨rfl, rfl⟩ := isHead_one h.1.2 h'.1.2
  exact ⟨rfl, rfl, h.2.2.2.1.symm.trans h'.2.2.2.1⟩
theorem isTxn_frm {L : List (List Int)} {q : Int} {N : List Int} {D : List (List Int)} (h : isTxn L q N D) : frmT N D = true ∧ 0 ≤ q ∧ q < 4294967296 := by
  obtain ⟨⟨h0, hN, ⟨q0, q1⟩, _⟩, hl, _, hD, hw⟩ := h
  refine ⟨?_, q0, q1⟩
  rw [frmT_parts, hN, hw, decide_eq_true]
  · rfl
  · rw [← hD, List.length_take, List.length_drop]; omega
/-- The transaction in a journal, that the disk has all blocks for. -/
def holdsT (n : Nat) (L : List (List Int)) (q : Int) (N : List Int) (D : List (List Int)) : Prop := isTxn L q N D ∧ hasN n N = true
section
variable {w : World} {P : Nat → Prop} {p : Value} {s : DS}
theorem gStored_yes (h : Dk w P p s) {v : Value} {L : List (List Int)} (hs : BBSl w v L) (hL : L.length ≤ 1000000) {q : Int} {N : List Int} {D : List (List Int)} (ht : holdsT s.F.length L q N D) :
    Calls Tryz.prog 32 #[p, v] w fun e w' => ∃ vN vD, e = .returned (.tuple #[.agg #[.int .u32 q, vN, vD], .bool true]) ∧ IR w' 0 vN N ∧ BBR w' 0 vD D ∧ Below w.heap.size w w' := by
  obtain ⟨ht, hh⟩ := ht
  have h37 : N.length ≤ 37 := (frmT_of (isTxn_frm ht).1).1
  have hbx := below_box w (.cells #[.int .u32 0, .slice none 0 0, .slice none 0 0] 71)
  have hnx := heap_alloc_new w (.cells #[.int .u32 0, .slice none 0 0, .slice none 0 0] 71)
  have KU := Lib.hid (fun W (hb : Below w.heap.size w W) => show Calls Tryz.prog 48 #[v] W fun e w' => ∃ vN vD, e = .returned (.tuple #[.agg #[.int .u32 q, vN, vD], .bool true]) ∧ IR w' 0 vN N ∧ BBR w' 0 vD D ∧ Below W.heap.size W w' from
    (tUnpack_any (hs.below hb) hL).mono fun e w' ⟨hb, hc⟩ => by
      rcases hc with ⟨q', N', D', vN, vD, ht', he, h1, h2⟩ | ⟨hno, _⟩
      · obtain ⟨rfl, rfl, rfl⟩ := isTxn_one ht ht'
        exact ⟨vN, vD, he, h1, h2, hb⟩
      · exact absurd ht (hno _ _ _))
  have KH := Lib.hid (fun W (hb : Below w.heap.size w W) vN (hN : IR W 0 vN N) => gHas_is (h.below hb) hN.sl (by omega) true hh)
  obtain ⟨bp, rfl⟩ := h.ptr
  obtain ⟨vo, vc, rfl, _⟩ := hs.shape
  generalize L.length = y at KU ⊢
  clear h hs hL ht hh h37
  go_enter Tryz.func32, Tryz.ntmps32
  go_upto_region 1 with (fail)
  have hzu : w.heap.size < (w.alloc (.cells #[.int .u32 0, .slice none 0 0, .slice none 0 0] 71)).heap.size := by simp
  generalize w.alloc (.cells #[.int .u32 0, .slice none 0 0, .slice none 0 0] 71) = w1 at hbx hnx hzu ⊢
  go_wp2_with (first
    | (go_at_call 48; (with_reducible refine (KU.out _ hbx).mono ?_); rintro e w2 ⟨vN, vD, rfl, hN2, hD2, hb2⟩
       obtain ⟨_, no, nc, rfl, _⟩ := hN2.isc
       obtain ⟨ao, dc, rfl, _⟩ := hD2.sl.shape
       have hns := heap_alloc_new w2 (.cells #[.int .u32 0, .slice none 0 0, .slice none 0 0] 71)
       have hbs := below_box w2 (.cells #[.int .u32 0, .slice none 0 0, .slice none 0 0] 71)
       have HN3 := Lib.hid (hN2.below hbs)
       have HD3 := Lib.hid (hD2.below hbs)
       have HB2 := Lib.hid hb2
       generalize hnn : N.length = n at HN3 ⊢
       generalize hmm : D.length = m at HD3 ⊢
       clear hN2 hD2 hnn hmm)
    | (with_reducible refine wpList_store_t3 rfl 71 sizeT (.tmp 6) (.tmp 11) rfl w2.heap.size rfl _ _ _ _ _ _ rfl rfl rfl rfl _ hns ?_; intro w4 hw4 hr4
       have hb4 := hbs.trans (hw4.below (Nat.le_refl _))
       have hb14 := HB2.out.trans (hb4.mono HB2.out.size)
       have hr0 := hold9 hnx hb14
       have HB4 := Lib.hid (hbx.trans (hb14.mono hbx.size))
       have x0 : w4.cell? ⟨w2.heap.size, 0, none⟩ = some (.int .u32 q) := by rw [cell_of_row _ _ _ _ _ _ hr4]; rfl
       have x1 : w4.cell? ⟨w2.heap.size, 1, none⟩ = some (.slice no n nc) := by rw [cell_of_row _ _ _ _ _ _ hr4]; rfl
       have x2 : w4.cell? ⟨w2.heap.size, 2, none⟩ = some (.slice ao m dc) := by rw [cell_of_row _ _ _ _ _ _ hr4]; rfl
       have HN4 := Lib.hid (HN3.out.wrote hw4 hns (by decide))
       have HD4 := Lib.hid (HD3.out.wrote hw4 (Nat.zero_le _) hns (by decide) (by decide))
       clear hns hbs hw4 hb4 hb14 HN3 HD3 hr4)
    | (go_at_call 49; (with_reducible refine (KH.out _ HB4.out _ HN4.out).mono ?_); rintro e w5 ⟨rfl, rfl⟩)
    | (with_reducible refine wpList_store_t3 rfl 71 sizeT (.tmp 4) (.tmp 23) rfl w.heap.size rfl _ _ _ _ _ _ rfl rfl rfl rfl _ hr0 ?_; intro w9 hw9 hr9))
  refine bodyPost_ret (ret_cell_t3 rfl Tryz.underlying71 sizeT _ _ w.heap.size _ _ _ _ _ rfl hr9 rfl) rfl ⟨_, _, rfl, ?_, ?_, HB4.out.trans (hw9.below (Nat.le_refl _))⟩
  · exact HN4.out.wrote hw9 hr0 (by decide)
  · exact HD4.out.wrote hw9 (Nat.zero_le _) hr0 (by decide) (by decide)
/-- None, or one that the disk hasn't all blocks for. -/
theorem gStored_no (h : Dk w P p s) {v : Value} {L : List (List Int)} (hs : BBSl w v L) (hL : L.length ≤ 1000000) (hno : ∀ q N D, ¬ holdsT s.F.length L q N D) :
    Calls Tryz.prog 32 #[p, v] w fun e w' => e = .returned (.tuple #[.agg #[.int .u32 0, .slice none 0 0, .slice none 0 0], .bool false]) ∧ Below w.heap.size w w' := by
  by_cases hex : ∃ q N D, isTxn L q N D
  · obtain ⟨q, N, D, ht⟩ := hex
    have hh : hasN s.F.length N = false := by
      cases e : hasN s.F.length N
      · rfl
      · exact absurd ⟨ht, e⟩ (hno q N D)
    have h37 : N.length ≤ 37 := (frmT_of (isTxn_frm ht).1).1
    have hbx := below_box w (.cells #[.int .u32 0, .slice none 0 0, .slice none 0 0] 71)
    have hnx := heap_alloc_new w (.cells #[.int .u32 0, .slice none 0 0, .slice none 0 0] 71)
    have KU := Lib.hid (fun W (hb : Below w.heap.size w W) => show Calls Tryz.prog 48 #[v] W fun e w' => ∃ vN vD, e = .returned (.tuple #[.agg #[.int .u32 q, vN, vD], .bool true]) ∧ IR w' 0 vN N ∧ BBR w' 0 vD D ∧ Below W.heap.size W w' from
      (tUnpack_any (hs.below hb) hL).mono fun e w' ⟨hb, hc⟩ => by
        rcases hc with ⟨q', N', D', vN, vD, ht', he, h1, h2⟩ | ⟨hno, _⟩
        · obtain ⟨rfl, rfl, rfl⟩ := isTxn_one ht ht'
          exact ⟨vN, vD, he, h1, h2, hb⟩
        · exact absurd ht (hno _ _ _))
    have KH := Lib.hid (fun W (hb : Below w.heap.size w W) vN (hN : IR W 0 vN N) => gHas_is (h.below hb) hN.sl (by omega) false hh)
    obtain ⟨bp, rfl⟩ := h.ptr
    obtain ⟨vo, vc, rfl, _⟩ := hs.shape
    generalize L.length = y at KU ⊢
    clear h hs hL ht hh h37 hno
    go_enter Tryz.func32, Tryz.ntmps32
    go_upto_region 1 with (fail)
    have hzu : w.heap.size < (w.alloc (.cells #[.int .u32 0, .slice none 0 0, .slice none 0 0] 71)).heap.size := by simp
    generalize w.alloc (.cells #[.int .u32 0, .slice none 0 0, .slice none 0 0] 71) = w1 at hbx hnx hzu ⊢
    go_wp2_with (first
      | (go_at_call 48; (with_reducible refine (KU.out _ hbx).mono ?_); rintro e w2 ⟨vN, vD, rfl, hN2, hD2, hb2⟩
         obtain ⟨_, no, nc, rfl, _⟩ := hN2.isc
         obtain ⟨ao, dc, rfl, _⟩ := hD2.sl.shape
         have hns := heap_alloc_new w2 (.cells #[.int .u32 0, .slice none 0 0, .slice none 0 0] 71)
         have hbs := below_box w2 (.cells #[.int .u32 0, .slice none 0 0, .slice none 0 0] 71)
         have HN3 := Lib.hid (hN2.below hbs)
         have HB2 := Lib.hid hb2
         generalize hnn : N.length = n at HN3 ⊢
         generalize hmm : D.length = m at ⊢
         clear hN2 hD2 hnn hmm)
      | (with_reducible refine wpList_store_t3 rfl 71 sizeT (.tmp 6) (.tmp 11) rfl w2.heap.size rfl _ _ _ _ _ _ rfl rfl rfl rfl _ hns ?_; intro w4 hw4 hr4
         have hb4 := hbs.trans (hw4.below (Nat.le_refl _))
         have hb14 := HB2.out.trans (hb4.mono HB2.out.size)
         have hr0 := hold9 hnx hb14
         have HB4 := Lib.hid (hbx.trans (hb14.mono hbx.size))
         have x1 : w4.cell? ⟨w2.heap.size, 1, none⟩ = some (.slice no n nc) := by rw [cell_of_row _ _ _ _ _ _ hr4]; rfl
         have HN4 := Lib.hid (HN3.out.wrote hw4 hns (by decide))
         clear hns hbs hw4 hb4 hb14 HN3 hr4)
      | (go_at_call 49; (with_reducible refine (KH.out _ HB4.out _ HN4.out).mono ?_); rintro e w5 ⟨rfl, rfl⟩)
      | (with_reducible refine wpList_store_t3 rfl 71 sizeT (.tmp 4) (.tmp 22) rfl w.heap.size rfl _ _ _ _ _ _ rfl rfl rfl rfl _ hr0 ?_; intro w9 hw9 hr9))
    refine bodyPost_ret (ret_cell_t3 rfl Tryz.underlying71 sizeT _ _ w.heap.size _ _ _ _ _ rfl hr9 rfl) rfl ⟨rfl, HB4.out.trans (hw9.below (Nat.le_refl _))⟩
  · have hn2 : ∀ q N D, ¬ isTxn L q N D := fun q N D ht => hex ⟨q, N, D, ht⟩
    have hbx := below_box w (.cells #[.int .u32 0, .slice none 0 0, .slice none 0 0] 71)
    have hnx := heap_alloc_new w (.cells #[.int .u32 0, .slice none 0 0, .slice none 0 0] 71)
    have KU := Lib.hid (fun W (hb : Below w.heap.size w W) => show Calls Tryz.prog 48 #[v] W fun e w' => e = .returned (.tuple #[.agg #[.int .u32 0, .slice none 0 0, .slice none 0 0], .bool false]) ∧ Below W.heap.size W w' from
      (tUnpack_any (hs.below hb) hL).mono fun e w' ⟨hb, hc⟩ => by
        rcases hc with ⟨q', N', D', vN, vD, ht', he, h1, h2⟩ | ⟨_, he⟩
        · exact absurd ht' (hn2 _ _ _)
        · exact ⟨he, hb⟩)
    obtain ⟨bp, rfl⟩ := h.ptr
    obtain ⟨vo, vc, rfl, _⟩ := hs.shape
    generalize L.length = y at KU ⊢
    clear h hs hL hno hn2 hex
    go_enter Tryz.func32, Tryz.ntmps32
    go_upto_region 1 with (fail)
    generalize w.alloc (.cells #[.int .u32 0, .slice none 0 0, .slice none 0 0] 71) = w1 at hbx hnx ⊢
    go_wp2_with (first
      | (go_at_call 48; (with_reducible refine (KU.out _ hbx).mono ?_); rintro e w2 ⟨rfl, hb2⟩
         have hns := heap_alloc_new w2 (.cells #[.int .u32 0, .slice none 0 0, .slice none 0 0] 71)
         have hbs := below_box w2 (.cells #[.int .u32 0, .slice none 0 0, .slice none 0 0] 71)
         have HB2 := Lib.hid hb2)
      | (with_reducible refine wpList_store_t3 rfl 71 sizeT (.tmp 6) (.tmp 11) rfl w2.heap.size rfl _ _ _ _ _ _ rfl rfl rfl rfl _ hns ?_; intro w4 hw4 hr4
         have hb4 := hbs.trans (hw4.below (Nat.le_refl _))
         have hb14 := HB2.out.trans (hb4.mono HB2.out.size)
         have hr0 := hold9 hnx hb14
         have HB4 := Lib.hid (hbx.trans (hb14.mono hbx.size))
         clear hns hbs hw4 hb4 hb14 hr4)
      | (with_reducible refine wpList_store_t3 rfl 71 sizeT (.tmp 4) (.tmp 22) rfl w.heap.size rfl _ _ _ _ _ _ rfl rfl rfl rfl _ hr0 ?_; intro w9 hw9 hr9))
    refine bodyPost_ret (ret_cell_t3 rfl Tryz.underlying71 sizeT _ _ w.heap.size _ _ _ _ _ rfl hr9 rfl) rfl ⟨rfl, HB4.out.trans (hw9.below (Nat.le_refl _))⟩
end
end Go.Proofs.YtigbhdgcjklhoaaGreat

/- Contracts of package log: Home. -/
namespace Go.Proofs.YtigbhdgcjklhoaaGreat
set_option maxRecDepth 100000
open Go.RowKit
set_option linter.unusedVariables false

theorem runA_cons (a : PA) (A : List PA) (s : DS) : runA (a :: A) s = if s.ok = true then runA A (a.run s) else (2, s.pay) := rfl
theorem runA_append : ∀ (A B : List PA) (s : DS), runA (A ++ B) s = if (runA A s).1 = 0 then runA B (runA A s).2 else runA A s
  | [], B, s => by
    show runA B s = if (0 : Int) = 0 then runA B s else _
    rw [if_pos rfl]
  | a :: A, B, s => by
    rw [List.cons_append, runA_cons, runA_cons]
    by_cases h : s.ok = true
    · rw [if_pos h, if_pos h]; exact runA_append A B _
    · rw [if_neg h, if_neg h, if_neg (by show ¬ (2 : Int) = 0; decide)]
theorem runA_next {X : List PA} {a : PA} {s : DS} (h : (runA X s).1 = 0) (hok : (runA X s).2.ok = true) : runA (X ++ [a]) s = (0, a.run (runA X s).2) := by
  rw [runA_append, if_pos h, runA_cons, if_pos hok]
  rfl
theorem runA_stop {X Y : List PA} {a : PA} {s : DS} (h : (runA X s).1 = 0) (hok : (runA X s).2.ok = false) : runA (X ++ a :: Y) s = (2, (runA X s).2.pay) := by
  rw [runA_append, if_pos h, runA_cons, if_neg (by rw [hok]; decide)]
theorem runA_len : ∀ (A : List PA) (s : DS), (runA A s).2.F.length = s.F.length ∧ (runA A s).2.U.length ≤ s.U.length + A.length
  | [], s => ⟨rfl, Nat.le_refl _⟩
  | a :: A, s => by
    unfold runA
    by_cases h : s.ok = true
    · rw [if_pos h]
      obtain ⟨h1, h2⟩ := runA_len A (a.run s)
      cases a with
      | w n l =>
        have e1 : (PA.run s (.w n l)).F.length = s.F.length := rfl
        have e2 : (PA.run s (.w n l)).U.length = s.U.length + 1 := by show (s.U ++ [(n, l)]).length = _; simp
        exact ⟨h1.trans e1, by simp only [List.length_cons]; omega⟩
      | f =>
        have e1 : (PA.run s .f).F.length = s.F.length := DS.vis_length s
        have e2 : (PA.run s .f).U.length = 0 := rfl
        exact ⟨h1.trans e1, by simp only [List.length_cons]; omega⟩
    · rw [if_neg h]
      exact ⟨rfl, Nat.le_add_right _ _⟩
/-- What a run of Writes and Flushes hands back, and leaves. -/
def RunQ (A : List PA) (w : World) (P : Nat → Prop) (p : Value) (s : DS) (e : Ending) (w' : World) : Prop :=
  e = .returned (.int .i64 (runA A s).1) ∧ ∃ P', Dk w' P' p (runA A s).2 ∧ Chg P P' w w'
theorem RunQ.stop {X Y : List PA} {a : PA} {w W : World} {P P' : Nat → Prop} {p : Value} {s : DS} (h : (runA X s).1 = 0) (hok : (runA X s).2.ok = false) (hd : Dk W P' p (runA X s).2.pay) (hc : Chg P P' w W) : RunQ (X ++ a :: Y) w P p s (.returned (.int .i64 2)) W := by
  unfold RunQ
  rw [runA_stop h hok]
  exact ⟨rfl, P', hd, hc⟩
theorem RunQ.done {X : List PA} {w W : World} {P P' : Nat → Prop} {p : Value} {s : DS} (h : (runA X s).1 = 0) (hd : Dk W P' p (runA X s).2) (hc : Chg P P' w W) : RunQ X w P p s (.returned (.int .i64 0)) W := by
  unfold RunQ
  rw [h]
  exact ⟨rfl, P', hd, hc⟩
theorem Chg.cell {P P' : Nat → Prop} {w w' : World} (h : Chg P P' w w') {g i : Nat} (hg : g < w.heap.size) (hn : ¬ P g) : w'.cell? ⟨g, i, none⟩ = w.cell? ⟨g, i, none⟩ :=
  World.cell?_of_block (a := ⟨g, i, none⟩) (h.keep g hg hn).1

theorem homeA_get (N : List Int) (D : List (List Int)) (k : Nat) (hk : k < N.length) : homeA N D = (homeA N D).take k ++ .w (N.getD k 0).toNat (D.getD k []) :: (homeA N D).drop (k + 1) ∧ (homeA N D).take (k + 1) = (homeA N D).take k ++ [.w (N.getD k 0).toNat (D.getD k [])] := by
  have hl : k < (homeA N D).length := by rw [homeA_length]; exact hk
  have e : (homeA N D)[k] = .w (N.getD k 0).toNat (D.getD k []) := by simp [homeA, homeW]
  refine ⟨?_, ?_⟩
  · rw [← e, List.getElem_cons_drop, List.take_append_drop]
  · rw [List.take_succ_eq_append_getElem hl, e]
section
variable {w : World} {P : Nat → Prop} {p : Value} {s : DS}
theorem gHome_no (h : Dk w P p s) {v : Value} {q : Int} {N : List Int} {D : List (List Int)} (hv : TxV w v q N D) (hB : takesT s.F.length N D = false) :
    Calls Tryz.prog 33 #[p, v] w fun e w' => e = .returned (.int .i64 1) ∧ Below w.heap.size w w' := by
  have hv' := hv
  obtain ⟨no, nc, ao, dc, rfl, hN, hD⟩ := hv
  have KT := Lib.hid (fun W (hb : Below w.heap.size w W) => gTakes_is (h.below hb) (hv'.below hb) false hB)
  obtain ⟨bp, rfl⟩ := h.ptr
  generalize N.length = n at KT ⊢
  generalize D.length = m at KT ⊢
  have hbx := below_box w (.cells #[.int .u32 q, .slice no n nc, .slice ao m dc] 71)
  have hnx := heap_alloc_new w (.cells #[.int .u32 q, .slice no n nc, .slice ao m dc] 71)
  clear h hN hD hv' hB
  go_enter Tryz.func33, Tryz.ntmps33
  go_upto_region 1 with (fail)
  generalize w.alloc (.cells #[.int .u32 q, .slice no n nc, .slice ao m dc] 71) = u at hbx hnx ⊢
  have KT1 := Lib.hid (KT.out _ hbx)
  have d0 : u.cell? ⟨w.heap.size, 0, none⟩ = some (.int .u32 q) := by rw [cell_of_row _ _ _ _ _ _ hnx]; rfl
  have d1 : u.cell? ⟨w.heap.size, 1, none⟩ = some (.slice no n nc) := by rw [cell_of_row _ _ _ _ _ _ hnx]; rfl
  have d2 : u.cell? ⟨w.heap.size, 2, none⟩ = some (.slice ao m dc) := by rw [cell_of_row _ _ _ _ _ _ hnx]; rfl
  have HBX := Lib.hid hbx
  clear hnx KT hbx
  go_wp2_with (go_at_call 50; (with_reducible refine KT1.out.mono ?_); rintro e w2 ⟨rfl, hb2⟩)
  go_ret
  exact ⟨rfl, HBX.out.trans (hb2.mono HBX.out.size)⟩
set_option maxHeartbeats 1000000 in
theorem gHome_yes (h : Dk w P p s) {v : Value} {q : Int} {N : List Int} {D : List (List Int)} (hv : TxVa w P v q N D) (hB : takesT s.F.length N D = true) (hU : s.U.length ≤ 900000) :
    Calls Tryz.prog 33 #[p, v] w (RunQ (homeA N D) w P p s) := by
  have hv' := hv
  obtain ⟨no, nc, ao, dc, rfl, hN, hD⟩ := hv
  have hB' := hB
  unfold takesT at hB'
  rw [Bool.and_eq_true, Bool.and_eq_true] at hB'
  obtain ⟨_, hF, hH⟩ := hB'
  obtain ⟨f1, f2, f3⟩ := frmT_of hF
  have hH' := (hasN_iff _ _).1 hH
  have KT := Lib.hid (fun W (hb : Below w.heap.size w W) => gTakes_is (h.below hb) (hv'.v.below hb) true hB)
  have hlt := fun k hk => h.lt k hk
  have HD0 := Lib.hid (fun W (hb : Below w.heap.size w W) => h.below hb)
  have hlen := fun k => runA_len ((homeA N D).take k) s
  have KW := Lib.hid (fun k (hk : k < N.length) W Pk (hd : Dk W Pk p (runA ((homeA N D).take k) s).2) v (hv : BSl W v (D.getD k [])) => kWrite hd (N.getD k 0).toNat (by
    have h1 := hH' k hk
    have h2 := (f3 k hk).1
    have h3 := (hlen k).1
    omega) hv (f3 k hk).2.1 (by
    have h1 := (hlen k).2
    rw [List.length_take, homeA_length] at h1
    omega))
  have HNK := Lib.hid (fun k (hk : k < N.length) => show N.getD k 0 = ((N.getD k 0).toNat : Int) by have := (f3 k hk).1; omega)
  have HL := Lib.hid (fun k (hk : k < N.length) => (f3 k hk).2.1)
  have HNC := Lib.hid (fun W P' (hc : Chg P P' w W) => (hN.1.1.chg hN.2 hc).1.open')
  have HDC := Lib.hid (fun W P' (hc : Chg P P' w W) => (hD.chg hc).sl.open')
  have HG := Lib.hid (fun k hk => homeA_get N D k hk)
  have HFULL : Hid ((homeA N D).take N.length = homeA N D) := Lib.hid (List.take_of_length_le (by rw [homeA_length]; exact Nat.le_refl _))
  obtain ⟨bp, rfl⟩ := h.ptr
  obtain ⟨A, hA⟩ : ∃ A, A = homeA N D := ⟨_, rfl⟩
  rw [← hA] at KW HG HFULL ⊢
  obtain ⟨n, hn⟩ : ∃ n, n = N.length := ⟨_, rfl⟩
  have hmn : D.length = n := f2.trans hn.symm
  rw [← hn] at KT KW HNK HL HNC HG HFULL f1 ⊢
  rw [hmn] at KT HDC ⊢
  have hbx := below_box w (.cells #[.int .u32 q, .slice no n nc, .slice ao n dc] 71)
  have hnx := heap_alloc_new w (.cells #[.int .u32 q, .slice no n nc, .slice ao n dc] 71)
  clear h hN hD hv' hB hF hH hH' hlen f2 f3 hA hn hmn
  go_enter Tryz.func33, Tryz.ntmps33
  go_upto_region 1 with (fail)
  generalize w.alloc (.cells #[.int .u32 q, .slice no n nc, .slice ao n dc] 71) = u at hbx hnx ⊢
  have KT1 := Lib.hid (KT.out _ hbx)
  have d0 : u.cell? ⟨w.heap.size, 0, none⟩ = some (.int .u32 q) := by rw [cell_of_row _ _ _ _ _ _ hnx]; rfl
  have d1 : u.cell? ⟨w.heap.size, 1, none⟩ = some (.slice no n nc) := by rw [cell_of_row _ _ _ _ _ _ hnx]; rfl
  have d2 : u.cell? ⟨w.heap.size, 2, none⟩ = some (.slice ao n dc) := by rw [cell_of_row _ _ _ _ _ _ hnx]; rfl
  have hzu : w.heap.size < u.heap.size := (Array.getElem?_eq_some_iff.1 hnx).1
  obtain ⟨d, hd⟩ : ∃ d, d = w.heap.size := ⟨_, rfl⟩
  have HND : Hid (¬ P d) := Lib.hid (fun hp => by have := hlt _ hp; omega)
  have HBX := Lib.hid hbx
  rw [← hd] at d0 d1 d2 hzu ⊢
  clear hnx KT hbx hlt hd
  go_wp2_with (go_at_call 50; (with_reducible refine KT1.out.mono ?_); rintro e w2 ⟨rfl, hb2⟩
               have HB2 := Lib.hid (HBX.out.trans (hb2.mono HBX.out.size))
               have g1 := (hb2.cell (p := ⟨d, 1, none⟩) hzu).trans d1
               have g2 := (hb2.cell (p := ⟨d, 2, none⟩) hzu).trans d2
               have hz2 := Nat.lt_of_lt_of_le hzu hb2.size
               clear hb2)
  have HC1 := Lib.hid (fun W P' (hc : Chg P P' w2 W) => (hc.cell (i := 1) hz2 HND.out).trans g1)
  have HC2 := Lib.hid (fun W P' (hc : Chg P P' w2 W) => (hc.cell (i := 2) hz2 HND.out).trans g2)
  have HCW := Lib.hid (fun W P' (hc : Chg P P' w2 W) => (Chg.of_below (P := P) HB2.out).trans hc)
  have HST : Hid (∃ Pk, Dk w2 Pk (.pointer (some ⟨bp, 0, none⟩)) (runA (A.take 0) s).2 ∧ Chg P Pk w2 w2) := Lib.hid ⟨P, HD0.out _ HB2.out, Chg.refl P w2⟩
  clear g1 g2 hz2 d0 d1 d2 hzu KT1
  go_loopw [15] (fun i wr => ∃ k : Nat, k ≤ n ∧ i = .int .i64 k ∧ Hid ((runA (A.take k) s).1 = 0) ∧ Hid (∃ Pk, Dk wr Pk (.pointer (some ⟨bp, 0, none⟩)) (runA (A.take k) s).2 ∧ Chg P Pk w2 wr)) (fun i _ => n - (intOf i).toNat)
  case atStart => exact ⟨0, by omega, rfl, Lib.hid (by rw [List.take_zero]; rfl), HST⟩
  case round =>
    obtain ⟨k, hk, rfl, HR, HS⟩ := hrel
    clear HST
    obtain ⟨Pk, hdk, hck⟩ := HS.out
    by_cases hlt : k < n
    · have y1 := HC1.out _ _ hck
      have y2 := HC2.out _ _ hck
      obtain ⟨no', nc', e1, q1⟩ := HNC.out _ _ (HCW.out _ _ hck)
      obtain ⟨rfl, rfl⟩ := And.intro (Value.slice.inj e1).1 (Value.slice.inj e1).2.2
      obtain ⟨b1, o1, rfl, _, c1⟩ := q1 (by omega)
      have z1 := c1 k hlt
      rw [HNK.out k hlt] at z1
      obtain ⟨ao', dc', e2, _, q2⟩ := HDC.out _ _ (HCW.out _ _ hck)
      obtain ⟨rfl, rfl⟩ := And.intro (Value.slice.inj e2).1 (Value.slice.inj e2).2.2
      obtain ⟨b2, o2, rfl, _, c2⟩ := q2 (by omega)
      obtain ⟨x, z2, hx⟩ := c2 k hlt
      have KC := Lib.hid (KW.out k hlt _ _ hdk _ hx)
      obtain ⟨xo, xc, rfl, _⟩ := hx.shape
      rw [HL.out k hlt] at z2 KC
      have ek : (k : Int) < (n : Int) := by omega
      have HGK := Lib.hid (HG.out k hlt)
      obtain ⟨x1, hx1⟩ : ∃ x1, x1 = (N.getD k 0).toNat := ⟨_, rfl⟩
      rw [← hx1] at z1 KC HGK
      clear hx1
      have HCK := Lib.hid hck
      clear e1 e2 q1 q2 c1 c2 hx hdk hck
      cases hok : (runA (A.take k) s).2.ok
      · rw [hok, if_neg Bool.false_ne_true, if_neg Bool.false_ne_true] at KC
        have HOK := Lib.hid hok
        clear hok
        go_wp2_with (go_at_call 51; (with_reducible refine KC.out.mono ?_); rintro e w3 ⟨rfl, P3, hd3, hc3⟩)
        go_ret
        rw [HGK.out.1]
        exact RunQ.stop HR.out HOK.out hd3 (HCW.out _ _ (HCK.out.trans hc3))
      · rw [hok, if_pos rfl, if_pos rfl] at KC
        have HOK := Lib.hid hok
        clear hok
        go_wp2_with (go_at_call 51; (with_reducible refine KC.out.mono ?_); rintro e w3 ⟨rfl, P3, hd3, hc3⟩)
        go_roundw
        case rel =>
          have e5 := HGK.out.2
          refine ⟨k + 1, by omega, by go_num, Lib.hid ?_, Lib.hid ⟨P3, ?_, HCK.out.trans hc3⟩⟩
          · rw [e5, runA_next HR.out HOK.out]
          · rw [e5, runA_next HR.out HOK.out]; exact hd3
        case measure => simp [intOf]; omega
    · obtain rfl : k = n := by omega
      clear HG
      go_wp2
      go_ret
      rw [HFULL.out] at HR HS
      obtain ⟨Pk, hdk, hck⟩ := HS.out
      exact RunQ.done HR.out hdk (HCW.out _ _ hck)
end
end Go.Proofs.YtigbhdgcjklhoaaGreat
