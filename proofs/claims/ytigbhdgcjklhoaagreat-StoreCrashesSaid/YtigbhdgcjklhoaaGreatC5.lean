/- Transactions: numbers that are formed, blocks that are whole; contracts of slices.Index, slices.Contains, and of package txn: formedNumbers, wholeBlocks. -/
import Derived.BigQuiet
import Derived.Deep.Cut
import Derived.IntWalk
import Derived.Test.YtigbhdgcjklhoaaGreatC1
import Derived.Test.YtigbhdgcjklhoaaGreatC3
import Derived.Test.YtigbhdgcjklhoaaGreatC4
namespace Go.Proofs.YtigbhdgcjklhoaaGreat
set_option maxRecDepth 100000
open Go.RowKit
set_option linter.unusedVariables false

def hasI (l : List Int) (n : Int) : Bool := l.any fun x => x == n
theorem hasI_yes {l : List Int} {n : Int} (k : Nat) (hk : k < l.length) (h : l.getD k 0 = n) : hasI l n = true := by
  unfold hasI
  rw [List.any_eq_true]
  refine ⟨l[k], List.getElem_mem hk, ?_⟩
  have e : l.getD k 0 = l[k] := by simp [List.getD_eq_getElem?_getD, hk]
  rw [← e, h]; simp
theorem hasI_no {l : List Int} {n : Int} (h : ∀ k, k < l.length → l.getD k 0 ≠ n) : hasI l n = false := by
  unfold hasI
  rw [List.any_eq_false]
  intro x hx
  obtain ⟨k, hk, rfl⟩ := List.getElem_of_mem hx
  have e : l.getD k 0 = l[k] := by simp [List.getD_eq_getElem?_getD, hk]
  have := h k hk
  rw [e] at this
  simpa using this
theorem newT_has (N : List Int) (i : Nat) : newT N i = !(hasI (N.take i) (N.getD i 0)) := by
  unfold newT hasI
  rw [List.not_any_eq_all_not]

/-- What is asked of number i; of all numbers. -/
def okN (N : List Int) (i : Nat) : Bool := inP9 (N.getD i 0) && newT N i
def frmNK (N : List Int) (k : Nat) : Bool := (List.range k).all fun i => okN N i
def frmNs (N : List Int) : Bool := decide (N.length ≤ 37) && frmNK N N.length
theorem frmNK_iff (N : List Int) (k : Nat) : frmNK N k = true ↔ ∀ i, i < k → okN N i = true := by
  unfold frmNK
  rw [List.all_eq_true]
  exact ⟨fun h i hi => h i (List.mem_range.2 hi), fun h i hi => h i (List.mem_range.1 hi)⟩
theorem frmNs_no {N : List Int} (i : Nat) (hi : i < N.length) (h : okN N i = false) : frmNs N = false := by
  cases e : frmNs N
  · rfl
  · unfold frmNs at e
    rw [Bool.and_eq_true] at e
    rw [(frmNK_iff N _).1 e.2 i hi] at h; cases h
theorem frmNs_long {N : List Int} (h : 37 < N.length) : frmNs N = false := by
  unfold frmNs; rw [decide_eq_false (by omega)]; rfl
theorem frmNs_yes {N : List Int} (h1 : N.length ≤ 37) (h : ∀ i, i < N.length → okN N i = true) : frmNs N = true := by
  unfold frmNs; rw [decide_eq_true h1, (frmNK_iff N _).2 h]; rfl
/-- The first k blocks are whole. -/
def whole (D : List (List Int)) : Bool := (List.range D.length).all fun i => decide ((D.getD i []).length = 256)
theorem whole_iff (D : List (List Int)) : whole D = true ↔ ∀ i, i < D.length → (D.getD i []).length = 256 := by
  unfold whole
  rw [List.all_eq_true]
  exact ⟨fun h i hi => of_decide_eq_true (h i (List.mem_range.2 hi)), fun h i hi => decide_eq_true (h i (List.mem_range.1 hi))⟩
theorem whole_no {D : List (List Int)} (i : Nat) (hi : i < D.length) (h : (D.getD i []).length ≠ 256) : whole D = false := by
  cases e : whole D
  · rfl
  · exact absurd ((whole_iff D).1 e i hi) h
theorem frmT_parts (N : List Int) (D : List (List Int)) : frmT N D = (frmNs N && (decide (D.length = N.length) && whole D)) := by
  by_cases h1 : N.length ≤ 37
  · by_cases h2 : D.length = N.length
    · unfold frmT frmNs whole
      rw [decide_eq_true h1, decide_eq_true h2, h2, Bool.true_and, Bool.true_and, Bool.true_and]
      have : ∀ k, frmTK N D k = (frmNK N k && (List.range k).all fun i => decide ((D.getD i []).length = 256)) := fun k => by
        rw [Bool.eq_iff_iff, Bool.and_eq_true, frmTK_iff, frmNK_iff, List.all_eq_true]
        constructor
        · intro h
          refine ⟨fun i hi => ?_, fun i hi => ?_⟩
          · have := h i hi
            unfold okT9 at this
            unfold okN
            rw [Bool.and_eq_true, Bool.and_eq_true] at this
            rw [this.1, this.2.2]; rfl
          · have := h i (List.mem_range.1 hi)
            unfold okT9 at this
            rw [Bool.and_eq_true, Bool.and_eq_true] at this
            exact this.2.1
        · rintro ⟨ha, hb⟩ i hi
          have h3 := ha i hi
          have h4 := hb i (List.mem_range.2 hi)
          unfold okN at h3
          rw [Bool.and_eq_true] at h3
          unfold okT9
          rw [h3.1, h3.2, h4]; rfl
      exact this _
    · rw [frmT_len h2, decide_eq_false h2]; simp
  · rw [frmT_long (by omega), frmNs_long (by omega)]; rfl
theorem frmNs_of {N : List Int} (h : frmNs N = true) : N.length ≤ 37 ∧ ∀ i, i < N.length → 0 ≤ N.getD i 0 ∧ N.getD i 0 ≤ 767 := by
  unfold frmNs at h
  rw [Bool.and_eq_true, decide_eq_true_eq, frmNK_iff] at h
  refine ⟨h.1, fun i hi => ?_⟩
  have := h.2 i hi
  unfold okN inP9 at this
  rw [Bool.and_eq_true, decide_eq_true_eq] at this
  exact this.1

theorem slIndex_of {w : World} {v : Value} {l : List Int} (hs : ISl w v l) (hl : l.length ≤ 1000000) (n : Int) : Calls Tryz.prog 88 #[v, .int .i64 n] w fun e w' => (∃ r : Int, e = .returned (.int .i64 r) ∧ decide (0 ≤ r) = hasI l n ∧ -1 ≤ r ∧ r ≤ 1000000) ∧ w = w' := by
  obtain ⟨ao, cap, rfl, hc⟩ := hs.open'
  have hyes := fun k (hk : k < l.length) => hasI_yes (l := l) (n := n) k hk
  have hno := hasI_no (l := l) (n := n)
  obtain ⟨R, hR⟩ : ∃ R, R = hasI l n := ⟨_, rfl⟩
  rw [← hR] at hyes hno ⊢
  obtain ⟨N, hN⟩ : ∃ N, N = l.length := ⟨_, rfl⟩
  rw [← hN] at hc hno hyes hl ⊢
  have HC := Lib.hid hc
  have HNO := Lib.hid hno
  have HYE := Lib.hid hyes
  clear hc hno hyes hR hs hN
  go_enter Tryz.func88, Tryz.ntmps88
  go_wp2
  go_loop [8] (fun i => ∃ k : Nat, k ≤ N ∧ i = .int .i64 k ∧ Hid (∀ j, j < k → l.getD j 0 ≠ n)) (fun i => N - (intOf i).toNat)
  case atStart => exact ⟨0, by omega, rfl, fun j hj => absurd hj (Nat.not_lt_zero _)⟩
  case round =>
    obtain ⟨k, hk, rfl, HK⟩ := hrel
    by_cases hlt : k < N
    · obtain ⟨b, off, rfl, _, hcc⟩ := HC.out (by omega)
      have hck := hcc k hlt
      have hy1 := HYE.out k hlt
      obtain ⟨x, hx⟩ : ∃ x, x = l.getD k 0 := ⟨_, rfl⟩
      rw [← hx] at hck hy1
      have HX := Lib.hid hx
      have HY1 := Lib.hid hy1
      have ek : (k : Int) < (N : Int) := by omega
      clear hx hcc hy1
      by_cases hf : n = x
      · have hR := HY1.out hf.symm
        subst hR
        subst hf
        go_wp2
        go_ret
        exact ⟨⟨_, rfl, by simp, by omega, by omega⟩, rfl⟩
      · have HF := Lib.hid hf
        go_wp2
        go_round
        case rel =>
          refine ⟨k + 1, by omega, by go_num, fun j hj => ?_⟩
          by_cases e : j = k
          · subst e; rw [← HX.out]; exact fun h => HF.out h.symm
          · exact HK.out j (by omega)
        case measure => simp [intOf]; omega
    · obtain rfl : k = N := by omega
      have hR := HNO.out HK.out
      subst hR
      go_wp2
      go_ret
      exact ⟨⟨_, rfl, by decide, by decide, by decide⟩, rfl⟩
theorem slCont_is {w : World} {v : Value} {l : List Int} (hs : ISl w v l) (hl : l.length ≤ 1000000) (n : Int) (B : Bool) (hB : hasI l n = B) : Calls Tryz.prog 84 #[v, .int .i64 n] w fun e w' => e = .returned (.bool B) ∧ w = w' := by
  have K := Lib.hid (slIndex_of hs hl n)
  rw [hB] at K
  clear hB hs hl
  go_enter Tryz.func84, Tryz.ntmps84
  go_wp2_with (go_at_call 88; (with_reducible refine K.out.mono ?_); rintro e w2 ⟨⟨r, rfl, hr, hr0, hr1⟩, rfl⟩)
  go_ret
  exact ⟨by rw [← hr]; rfl, rfl⟩
end Go.Proofs.YtigbhdgcjklhoaaGreat

/- Contracts of package txn: formedNumbers, wholeBlocks, Formed. -/
namespace Go.Proofs.YtigbhdgcjklhoaaGreat
set_option maxRecDepth 100000
open Go.RowKit
set_option linter.unusedVariables false

/-- A []int that reads as l, its capacity told. -/
def ISc (w : World) (v : Value) (l : List Int) : Prop := ISl w v l ∧ ∃ ao cap, v = .slice ao l.length cap ∧ l.length ≤ cap
theorem ISc.below {w w' : World} {v : Value} {l : List Int} (h : ISc w v l) (hb : Below w.heap.size w w') : ISc w' v l := ⟨h.1.below hb, h.2⟩
theorem isc_nil (w : World) : ISc w (.slice none 0 0) [] := ⟨isl_nil w, none, 0, rfl, Nat.le_refl _⟩
theorem IR.isc {w : World} {B : Nat} {v : Value} {l : List Int} (h : IR w B v l) : ISc w v l := by
  refine ⟨h.sl, ?_⟩
  rcases h.2 with ⟨hv, hl⟩ | ⟨g, cap, cur, hv, hg, hh, hnc, _⟩
  · exact ⟨none, 0, by rw [hv, hl], by omega⟩
  · exact ⟨_, cap, hv, hnc⟩
theorem ISl.take {w : World} {a : Addr} {cap : Nat} {l : List Int} (h : ISl w (.slice (some a) l.length cap) l) (n : Nat) (hn : n ≤ l.length) : ISl w (.slice (some a) n cap) (l.take n) := by
  rcases h with ⟨hv, _⟩ | ⟨a', c', hv, hc⟩
  · simp at hv
  · obtain ⟨rfl, rfl⟩ : a = a' ∧ cap = c' := ⟨Option.some.inj (Value.slice.inj hv).1, (Value.slice.inj hv).2.2⟩
    have hl : (l.take n).length = n := by rw [List.length_take]; omega
    refine .inr ⟨a, cap, by rw [hl], fun j hj => ?_⟩
    rw [hl] at hj
    obtain ⟨h1, h2, h3⟩ := hc j (by omega)
    refine ⟨h1, h2, ?_⟩
    rw [h3]
    simp [List.getD_eq_getElem?_getD, hj]
theorem tFormN_of {w : World} {v : Value} {l : List Int} (hs : ISc w v l) : Calls Tryz.prog 78 #[v] w fun e w' => e = .returned (.bool (frmNs l)) ∧ w = w' := by
  obtain ⟨h1, ao, cap, rfl, hcap⟩ := hs
  obtain ⟨ao', cap', hv, hc⟩ := h1.open'
  obtain ⟨rfl, rfl⟩ : ao = ao' ∧ cap = cap' := ⟨(Value.slice.inj hv).1, (Value.slice.inj hv).2.2⟩
  by_cases h37 : l.length ≤ 37
  · have hno := fun k hk h => frmNs_no (N := l) k hk h
    have hyes := frmNs_yes h37
    obtain ⟨R, hR⟩ : ∃ R, R = frmNs l := ⟨_, rfl⟩
    have htk := fun (a : Addr) (h : ao = some a) n hn => ISl.take (w := w) (a := a) (cap := cap) (l := l) (by rw [← h]; exact h1) n hn
    have hnt := fun i => newT_has l i
    have HTL := Lib.hid (fun n : Nat => (List.length_take (i := n) (l := l)))
    rw [← hR] at hno hyes ⊢
    obtain ⟨N, hN⟩ : ∃ N, N = l.length := ⟨_, rfl⟩
    rw [← hN] at hc hno hyes h37 hcap htk HTL ⊢
    have HC := Lib.hid hc
    have HNO := Lib.hid hno
    have HYE := Lib.hid hyes
    have HTK := Lib.hid htk
    have HNT := Lib.hid hnt
    have hle : ¬ 37 < (N : Int) := by omega
    clear hc hno hyes hR h1 hN hv htk hnt
    go_enter Tryz.func78, Tryz.ntmps78
    go_wp2
    go_loop [10] (fun i => ∃ k : Nat, k ≤ N ∧ i = .int .i64 k ∧ Hid (∀ j, j < k → okN l j = true)) (fun i => N - (intOf i).toNat)
    case atStart => exact ⟨0, by omega, rfl, fun j hj => absurd hj (Nat.not_lt_zero _)⟩
    case round =>
      obtain ⟨k, hk, rfl, HK⟩ := hrel
      by_cases hlt : k < N
      · obtain ⟨b, off, rfl, _, hcc⟩ := HC.out (by omega)
        have hck := hcc k hlt
        have hn1 := HNO.out k hlt
        have hok : okN l k = (inP9 (l.getD k 0) && !(hasI (l.take k) (l.getD k 0))) := by unfold okN; rw [HNT.out]
        have htk := HTK.out _ rfl k (by omega)
        have htl : (l.take k).length ≤ 1000000 := by rw [HTL.out]; omega
        obtain ⟨x, hx⟩ : ∃ x, x = l.getD k 0 := ⟨_, rfl⟩
        rw [← hx] at hck hok
        have KH := Lib.hid (fun B hB => slCont_is htk htl x B hB)
        have HOK := Lib.hid hok
        have HN1 := Lib.hid hn1
        have ek : (k : Int) < (N : Int) := by omega
        have ek2 : (k : Int) ≤ (cap : Int) := by omega
        have ek3 : k ≤ cap := by omega
        clear hx hcc hn1 hok htk htl
        by_cases hlo : x < 0
        · have hR := HN1.out (by rw [HOK.out]; unfold inP9; rw [decide_eq_false (by omega)]; rfl)
          subst hR
          go_wp2
          go_ret
          exact ⟨rfl, rfl⟩
        · by_cases hhi : 767 < x
          · have hR := HN1.out (by rw [HOK.out]; unfold inP9; rw [decide_eq_false (by omega)]; rfl)
            subst hR
            go_wp2
            go_ret
            exact ⟨rfl, rfl⟩
          · have hin : inP9 x = true := decide_eq_true (by omega)
            rw [hin, Bool.true_and] at HOK
            obtain ⟨B, hB⟩ : ∃ B, hasI (l.take k) x = B := ⟨_, rfl⟩
            have KB := Lib.hid (KH.out B hB)
            rw [hB] at HOK
            have h01 : ¬ x > 767 := by omega
            clear hB hin KH
            cases B
            · go_wp2_with (go_at_call 84; (with_reducible refine KB.out.mono ?_); rintro e w2 ⟨rfl, rfl⟩)
              go_round
              case rel =>
                refine ⟨k + 1, by omega, by go_num, fun j hj => ?_⟩
                by_cases e : j = k
                · subst e; exact HOK.out
                · exact HK.out j (by omega)
              case measure => simp [intOf]; omega
            · have hR := HN1.out HOK.out
              subst hR
              go_wp2_with (go_at_call 84; (with_reducible refine KB.out.mono ?_); rintro e w2 ⟨rfl, rfl⟩)
              go_ret
              exact ⟨rfl, rfl⟩
      · obtain rfl : k = N := by omega
        have hR := HYE.out HK.out
        subst hR
        go_wp2
        go_ret
        exact ⟨rfl, rfl⟩
  · rw [frmNs_long (by omega)]
    obtain ⟨N, hN⟩ : ∃ N, N = l.length := ⟨_, rfl⟩
    rw [← hN] at h37 ⊢
    have hle : 37 < (N : Int) := by omega
    clear hc h1 hv hN
    go_enter Tryz.func78, Tryz.ntmps78
    go_wp2
    go_ret
    exact ⟨rfl, rfl⟩
theorem tWhole_of {w : World} {v : Value} {L : List (List Int)} (hs : BBSl w v L) (hL : L.length ≤ 1000000) : Calls Tryz.prog 63 #[v] w fun e w' => e = .returned (.bool (whole L)) ∧ w = w' := by
  obtain ⟨ao, cap, rfl, _, hc⟩ := hs.open'
  have hno := fun k hk h => whole_no (D := L) k hk h
  have hyes := (whole_iff L).2
  obtain ⟨R, hR⟩ : ∃ R, R = whole L := ⟨_, rfl⟩
  rw [← hR] at hno hyes ⊢
  obtain ⟨N, hN⟩ : ∃ N, N = L.length := ⟨_, rfl⟩
  rw [← hN] at hc hno hyes hL ⊢
  have HC := Lib.hid hc
  have HNO := Lib.hid hno
  have HYE := Lib.hid hyes
  clear hc hno hyes hR hs hN
  go_enter Tryz.func63, Tryz.ntmps63
  go_wp2
  go_loop [7] (fun i => ∃ k : Nat, k ≤ N ∧ i = .int .i64 k ∧ Hid (∀ j, j < k → (L.getD j []).length = 256)) (fun i => N - (intOf i).toNat)
  case atStart => exact ⟨0, by omega, rfl, fun j hj => absurd hj (Nat.not_lt_zero _)⟩
  case round =>
    obtain ⟨k, hk, rfl, HK⟩ := hrel
    by_cases hlt : k < N
    · obtain ⟨b, off, rfl, _, hcc⟩ := HC.out (by omega)
      obtain ⟨u, hck, hu⟩ := hcc k hlt
      have hn1 := HNO.out k hlt
      obtain ⟨uo, uc, rfl, _⟩ := hu.shape
      obtain ⟨x, hx⟩ : ∃ x, x = (L.getD k []).length := ⟨_, rfl⟩
      rw [← hx] at hck hn1
      have HX := Lib.hid hx
      have HN1 := Lib.hid hn1
      have ek : (k : Int) < (N : Int) := by omega
      clear hx hcc hn1 hu
      by_cases hf : x = 256
      · subst hf
        go_wp2
        go_round
        case rel =>
          refine ⟨k + 1, by omega, by go_num, fun j hj => ?_⟩
          by_cases e : j = k
          · subst e; exact HX.out.symm
          · exact HK.out j (by omega)
        case measure => simp [intOf]; omega
      · have hR := HN1.out hf
        subst hR
        have hfi : ¬ (x : Int) = 256 := by omega
        have hne : ((x : Int) != 256) = true := by simp; omega
        go_wp2
        go_ret
        exact ⟨rfl, rfl⟩
    · obtain rfl : k = N := by omega
      have hR := HYE.out HK.out
      subst hR
      go_wp2
      go_ret
      exact ⟨rfl, rfl⟩
end Go.Proofs.YtigbhdgcjklhoaaGreat

/- Contracts of package txn: Formed; of bytes.Clone. -/
namespace Go.Proofs.YtigbhdgcjklhoaaGreat
set_option maxRecDepth 100000
open Go.RowKit
set_option linter.unusedVariables false

/-- A value of a transaction's type that reads as q, N, D. -/
def TxV (w : World) (v : Value) (q : Int) (N : List Int) (D : List (List Int)) : Prop :=
  ∃ no nc ao dc, v = .agg #[.int .u32 q, .slice no N.length nc, .slice ao D.length dc] ∧ ISc w (.slice no N.length nc) N ∧ BBSl w (.slice ao D.length dc) D
theorem TxV.below {w w' : World} {v : Value} {q : Int} {N : List Int} {D : List (List Int)} (h : TxV w v q N D) (hb : Below w.heap.size w w') : TxV w' v q N D := by
  obtain ⟨no, nc, ao, dc, h1, h2, h3⟩ := h
  exact ⟨no, nc, ao, dc, h1, h2.below hb, h3.below hb⟩
theorem TxV.mk {w : World} {vN vD : Value} {q : Int} {N : List Int} {D : List (List Int)} (hN : ISc w vN N) (hD : BBSl w vD D) : TxV w (.agg #[.int .u32 q, vN, vD]) q N D := by
  have hN' := hN
  obtain ⟨_, no, nc, rfl, _⟩ := hN
  obtain ⟨ao, dc, rfl, _⟩ := hD.shape
  exact ⟨no, nc, ao, dc, rfl, hN', hD⟩
theorem tForm_is {w : World} {v : Value} {q : Int} {N : List Int} {D : List (List Int)} (h : TxV w v q N D) (B : Bool) (hB : frmT N D = B) : Calls Tryz.prog 65 #[v] w fun e w' => e = .returned (.bool B) ∧ Below w.heap.size w w' := by
  obtain ⟨no, nc, ao, dc, rfl, hN, hD⟩ := h
  obtain ⟨n, hn⟩ : ∃ n, n = N.length := ⟨_, rfl⟩
  obtain ⟨m, hm⟩ : ∃ m, m = D.length := ⟨_, rfl⟩
  rw [frmT_parts, ← hn, ← hm] at hB
  have KN := Lib.hid (fun W (hb : Below w.heap.size w W) => tFormN_of (hN.below hb))
  have KD := Lib.hid (fun W (hb : Below w.heap.size w W) (hl : D.length ≤ 1000000) => tWhole_of (hD.below hb) hl)
  have HL := Lib.hid (fun (h : frmNs N = true) => (frmNs_of h).1)
  rw [← hn] at KN HL ⊢
  rw [← hm] at KD ⊢
  have hbx := below_box w (.cells #[.int .u32 q, .slice no n nc, .slice ao m dc] 71)
  have hnx := heap_alloc_new w (.cells #[.int .u32 q, .slice no n nc, .slice ao m dc] 71)
  clear hN hD hn hm
  go_enter Tryz.func65, Tryz.ntmps65
  go_upto_region 1 with (fail)
  generalize w.alloc (.cells #[.int .u32 q, .slice no n nc, .slice ao m dc] 71) = u at hbx hnx ⊢
  have KN1 := Lib.hid (KN.out _ hbx)
  have KD1 := Lib.hid (KD.out _ hbx)
  have HBX := Lib.hid hbx
  clear KN KD hbx
  have d1 : u.cell? ⟨w.heap.size, 1, none⟩ = some (.slice no n nc) := by rw [cell_of_row _ _ _ _ _ _ hnx]; rfl
  have d2 : u.cell? ⟨w.heap.size, 2, none⟩ = some (.slice ao m dc) := by rw [cell_of_row _ _ _ _ _ _ hnx]; rfl
  clear hnx
  obtain ⟨F, hF⟩ : ∃ F, frmNs N = F := ⟨_, rfl⟩
  obtain ⟨G, hG⟩ : ∃ G, whole D = G := ⟨_, rfl⟩
  rw [hF, hG] at hB
  rw [hF] at KN1 HL
  rw [hG] at KD1
  have HLE := Lib.hid (fun (h : F = true) (h2 : m = n) => show m ≤ 1000000 by have := HL.out h; omega)
  clear hF hG HL
  cases F
  · rw [Bool.false_and] at hB
    subst hB
    go_wp2_with (go_at_call 78; (with_reducible refine KN1.out.mono ?_); rintro e w2 ⟨rfl, rfl⟩)
    go_ret
    exact ⟨rfl, HBX.out⟩
  · by_cases hmn : m = n
    · have hle := HLE.out rfl hmn
      rw [decide_eq_true hmn, Bool.true_and, Bool.true_and] at hB
      subst hB
      subst hmn
      have KD2 := Lib.hid (KD1.out hle)
      clear hle HLE KD1
      go_wp2_with (first
        | (go_at_call 78; (with_reducible refine KN1.out.mono ?_); rintro e w2 ⟨rfl, rfl⟩)
        | (go_at_call 63; (with_reducible refine KD2.out.mono ?_); rintro e w3 ⟨rfl, rfl⟩))
      go_ret
      exact ⟨rfl, HBX.out⟩
    · rw [decide_eq_false hmn, Bool.false_and, Bool.and_false] at hB
      subst hB
      have hne : ¬ (m : Int) = (n : Int) := by omega
      have hne2 : ((m : Int) == (n : Int)) = false := by simpa using hne
      have hne3 : decide ((m : Int) = (n : Int)) = false := decide_eq_false hne
      clear HLE KD1 hmn
      go_wp2_with (go_at_call 78; (with_reducible refine KN1.out.mono ?_); rintro e w2 ⟨rfl, rfl⟩)
      go_ret
      exact ⟨rfl, HBX.out⟩

theorem ob_nil9 (w : World) (B : Nat) : OB w B (.slice none 0 0) [] := ⟨byt_nil, World.ownsRow_nil w B _ _⟩
set_option maxRecDepth 100000 in
theorem bClone_of {w : World} {v : Value} {l : List Int} (hs : BSl w v l) (hl : l.length ≤ 1000000) : Calls Tryz.prog 38 #[v] w (NewB w l) := by
  have hs' := hs
  rcases hs.2 with ⟨rfl, rfl⟩ | ⟨a, cap, rfl, hcap, hc⟩
  · clear hs hs' hl
    have he : ∀ w : World, (binOp .eql 59 (.slice none 0 0) (.slice none 0 0)).run Tryz.prog w = .ok (.bool true) w := fun _ => rfl
    go_enter Tryz.func38, Tryz.ntmps38
    go_wp2
    go_ret
    exact ⟨_, rfl, ob_nil9 _ _, Below.refl _ _⟩
  · have HS := Lib.hid hs'
    have HL : Hid (0 + l.length ≤ 140737488355328) := Lib.hid (by omega)
    have H0 := Lib.hid (ob_empty w)
    have hb0 := below_box w (.cells #[] 5)
    have HK := Lib.hid (fun (p : Addr) (hp : p.block < w.heap.size) => World.cell?_alloc_lt w (.cells #[] 5) p hp)
    have hsz : w.heap.size ≤ (w.alloc (.cells #[] 5)).heap.size := by simp
    clear hs hs' hc hl
    have he : ∀ w : World, (binOp .eql 59 (.slice (some a) l.length cap) (.slice none 0 0)).run Tryz.prog w = .ok (.bool false) w := fun _ => rfl
    go_enter Tryz.func38, Tryz.ntmps38
    go_wp2_with (at_builtin; refine wpList_append_bytes _ rfl (.tmp 5) (.tmp 6) rfl w.heap.size _ [] rfl H0.out w _ l rfl HS.out HK.out HL.out hsz ?_
                 intro v3 w3 hob3 hb3 _)
    go_ret
    exact ⟨_, rfl, hob3, hb0.trans hb3⟩
end Go.Proofs.YtigbhdgcjklhoaaGreat

/- Contracts of package txn: copies. -/
namespace Go.Proofs.YtigbhdgcjklhoaaGreat
set_option maxRecDepth 100000
open Go.RowKit
set_option linter.unusedVariables false

theorem made_bb (n : Nat) : madeCells (Value.slice none 0 0).cells n = Array.replicate n (Value.slice none 0 0) := by
  apply Array.ext'
  rw [show (Value.slice none 0 0).cells = #[Value.slice none 0 0] from rfl, toList_madeCells_one]
  simp
/-- make([][]byte, n). -/
theorem wpList_make_bb (w : World) {ops : Array Oper} {rest : List Oper} {o : Oper} {a : Act} {Q : Exit → Act → World → Prop}
    (hg : o.guard = none) (l c : Operand) (hop : o.op = Op.makeSlice 34 l c) (C : Int) (n : Nat) (hl : a.eval l = .int .i64 C) (hc : a.eval c = .int .i64 C) (hC : C = n) (hn : n ≤ 1000000)
    (hK : wpList Tryz.prog ops Q rest (a.put o.dst (.slice (some ⟨w.heap.size, 0, none⟩) n n)) (w.alloc (.cells (Array.replicate n (Value.slice none 0 0)) 59))) :
    wpList Tryz.prog ops Q (o :: rest) a w := by
  refine wpList_plain hg fun K hK' => ?_
  obtain ⟨i, h2, h3, h4, h5⟩ := info_parts infoBy
  subst hC
  have hrun := run_make (P := Tryz.prog) w 34 59 i (.slice none 0 0) Tryz.underlying34 h2 h3 .i64 .i64 n n (by omega) (by omega) (by rw [h5]; omega) (by omega)
  unfold Oper.wp
  simp only [Int.toNat_natCast, h4, Nat.mul_one, made_bb] at hrun
  simp [execOp, hop, hl, hc, hrun, Result.andThen]
  exact hK' _ _ hK
theorem bb_free {W : World} {g : Nat} {vs : List Value} {T : TypeId} (h : W.heap[g]? = some (.cells vs.toArray T (0, 0))) (k : Nat) : W.frozen? ⟨g, k, none⟩ = false := by
  simp [World.frozen?, h]
theorem bb_set {W : World} {g : Nat} {vs : List Value} {T : TypeId} (h : W.heap[g]? = some (.cells vs.toArray T (0, 0))) (j : Nat) (y : Value) : (W.setCell ⟨g, j, none⟩ y).heap[g]? = some (.cells (vs.set j y).toArray T (0, 0)) := by
  rw [heap_setCell_same W g j _ _ _ h]
  simp
/-- A row of []byte of which k are laid. -/
def RowB (w : World) (g B n : Nat) (D : List (List Int)) (k : Nat) : Prop :=
  ∃ vs : List Value, vs.length = n ∧ w.heap[g]? = some (.cells vs.toArray 59 (0, 0)) ∧ ∀ j, j < k → BElt w B (vs.getD j undef) (D.getD j [])
theorem RowB.make (w : World) (B n : Nat) (D : List (List Int)) : RowB (w.alloc (.cells (Array.replicate n (Value.slice none 0 0)) 59)) w.heap.size B n D 0 :=
  ⟨List.replicate n (Value.slice none 0 0), List.length_replicate, by rw [heap_alloc_new]; simp, fun j hj => absurd hj (Nat.not_lt_zero _)⟩
theorem RowB.row {w : World} {g B n : Nat} {D : List (List Int)} {k : Nat} (h : RowB w g B n D k) : ∃ vs : List Value, vs.length = n ∧ w.heap[g]? = some (.cells vs.toArray 59 (0, 0)) := by
  obtain ⟨vs, h1, h2, _⟩ := h
  exact ⟨vs, h1, h2⟩
theorem RowB.below {w w' : World} {g B n : Nat} {D : List (List Int)} {k : Nat} (h : RowB w g B n D k) (hb : Below w.heap.size w w') : RowB w' g B n D k := by
  obtain ⟨vs, h1, h2, h3⟩ := h
  have hg : g < w.heap.size := (Array.getElem?_eq_some_iff.1 h2).1
  exact ⟨vs, h1, (hb.block g hg).trans h2, fun j hj => (h3 j hj).below hb⟩
theorem RowB.set {w : World} {g B n : Nat} {D : List (List Int)} {k : Nat} (h : RowB w g B n D k) (hk : k < n) (hB : B ≤ g) {y : Value} (hy : BElt w B y (D.getD k [])) : RowB (w.setCell ⟨g, k, none⟩ y) g B n D (k + 1) := by
  obtain ⟨vs, h1, h2, h3⟩ := h
  have hgr : w.grownBy (w.setCell ⟨g, k, none⟩ y) (some g) := by
    have := Wrote.setCell w g k y
    exact ⟨this.1, this.2.1, this.2.2.1, by rw [this.2.2.2.1]; exact Nat.le_refl _, fun b hb hne => this.2.2.2.2 b (fun e => hne (by rw [e]))⟩
  have hrow : ∀ g', some g = some g' → B ≤ g' ∧ ∃ cur, w.heap[g']? = some (.cells cur 59 (0, 0)) := fun g' e => by
    obtain rfl := Option.some.inj e
    exact ⟨hB, _, h2⟩
  refine ⟨vs.set k y, by rw [List.length_set]; exact h1, bb_set h2 k y, fun j hj => ?_⟩
  by_cases e : j = k
  · subst e
    have := hy.grown hrow hgr
    simpa [List.getD_eq_getElem?_getD, h1, hk] using this
  · have := (h3 j (by omega)).grown hrow hgr
    rw [List.getD_eq_getElem?_getD, List.getElem?_set_ne (by omega), ← List.getD_eq_getElem?_getD]
    exact this
theorem RowB.done {w : World} {g B : Nat} {D : List (List Int)} (h : RowB w g B D.length D D.length) (hB : B ≤ g) (hm : D.length ≤ 1000000) : BBR w B (.slice (some ⟨g, 0, none⟩) D.length D.length) D := by
  obtain ⟨vs, h1, h2, h3⟩ := h
  refine ⟨vs, h1, h3, by rw [h1, Nat.mul_one], .inr ⟨g, D.length, _, rfl, hB, h2, Nat.le_refl _, by unfold maxLen; omega, by simp [h1], ?_⟩⟩
  rw [List.take_of_length_le (by simp [h1])]
theorem tCopies_of {w : World} {v : Value} {D : List (List Int)} (hs : BBSl w v D) (hD : D.length ≤ 1000000) (hl : ∀ j, (D.getD j []).length ≤ 1000000)
    (B : Nat) (hB : B ≤ w.heap.size) : Calls Tryz.prog 64 #[v] w fun e w' => ∃ u, e = .returned u ∧ BBR w' B u D ∧ Below w.heap.size w w' := by
  obtain ⟨ao, cap, rfl, _, hc⟩ := hs.open'
  have HDN := Lib.hid (fun W (h : RowB W w.heap.size B D.length D D.length) => h.done hB hD)
  have HBG := Lib.hid hB
  have HLN := Lib.hid hl
  obtain ⟨n, hn⟩ : ∃ n, n = D.length := ⟨_, rfl⟩
  rw [← hn] at hc hD HDN ⊢
  have HC := Lib.hid hc
  have hbx := below_box w (.cells (Array.replicate n (Value.slice none 0 0)) 59)
  have hr0 := RowB.make w B n D
  clear hs hc hl hn hB
  go_enter Tryz.func64, Tryz.ntmps64
  go_wp2_with (at_make; refine wpList_make_bb w rfl _ _ rfl (n : Int) n rfl rfl rfl hD ?_)
  generalize w.alloc (.cells (Array.replicate n (Value.slice none 0 0)) 59) = w1 at hbx hr0 ⊢
  have HR0 := Lib.hid hr0
  have HBX := Lib.hid hbx
  obtain ⟨g, hg⟩ : ∃ g, g = w.heap.size := ⟨_, rfl⟩
  rw [← hg] at HR0 HDN HBG ⊢
  have HG := Lib.hid hg
  clear hr0 hbx hg
  go_loopw [11] (fun i wr => ∃ k : Nat, k ≤ n ∧ i = .int .i64 k ∧ Hid (RowB wr g B n D k) ∧ Hid (Below w.heap.size w wr)) (fun i _ => n - (intOf i).toNat)
  case atStart => exact ⟨0, by omega, rfl, HR0, HBX⟩
  case round =>
    obtain ⟨k, hk, rfl, HR, HB⟩ := hrel
    clear HR0 HBX
    by_cases hlt : k < n
    · obtain ⟨b, off, rfl, hb, hcc⟩ := HC.out (by omega)
      obtain ⟨u, hcu, hu⟩ := hcc k hlt
      have hck := (HB.out.cell (p := ⟨b, off + k, none⟩) hb).trans hcu
      have KC := Lib.hid (bClone_of (hu.below HB.out) (HLN.out k))
      have ek : (k : Int) < (n : Int) := by omega
      obtain ⟨vs, hvl, hvr⟩ := HR.out.row
      have hgr : g < wr.heap.size := (Array.getElem?_eq_some_iff.1 hvr).1
      clear hcc hcu hu hb hvl hvr
      go_wp2_with (go_at_call 38; (with_reducible refine KC.out.mono ?_); rintro e w2 ⟨y, rfl, hoy, hb2⟩
                   obtain ⟨yo, yc, rfl, _⟩ := hoy.bsl.shape
                   generalize (D.getD k []).length = yl at hoy ⊢
                   have hr2 := HR.out.below hb2
                   have HY := Lib.hid (hoy.elt (B := B))
                   have HR2 := Lib.hid hr2
                   obtain ⟨vs2, hvl2, hvr2⟩ := hr2.row
                   have hf2 := bb_free hvr2 k
                   have hc2 : ∃ z, w2.cell? ⟨g, k, none⟩ = some z := ⟨vs2[k]'(by omega), by rw [cell_of_row _ _ _ _ _ _ hvr2]; simp [hvl2, hlt]⟩
                   obtain ⟨z, hz⟩ := hc2
                   have HB2 := Lib.hid (HB.out.trans (hb2.mono HB.out.size))
                   clear hr2 hvl2 hvr2 hoy)
      go_roundw
      case rel => exact ⟨k + 1, by omega, by go_num, HR2.out.set hlt HBG.out HY.out, (HB2.out.trans ((Wrote.setCell w2 g k _).below (by rw [HG.out]; exact Nat.le_refl _)))⟩
      case measure => simp [intOf]; omega
    · obtain rfl : k = n := by omega
      go_wp2
      go_ret
      exact ⟨_, rfl, HDN.out _ HR.out, HB.out⟩
end Go.Proofs.YtigbhdgcjklhoaaGreat

/- Contracts of package pack: isSize, Put. -/
namespace Go.Proofs.YtigbhdgcjklhoaaGreat
set_option maxRecDepth 100000
open Go.RowKit
set_option linter.unusedVariables false

theorem pIsSize_yes (size : Int) (w : World) (h : 1 ≤ size ∧ size ≤ 8) :
    Calls Tryz.prog 80 #[.int .i64 size] w fun e w' => e = .returned (.bool true) ∧ w = w' := by
  obtain ⟨h1, h2⟩ := h
  go_enter Tryz.func80, Tryz.ntmps80
  go_wp2
  go_ret
  exact ⟨rfl, rfl⟩
theorem pIsSize_no (size : Int) (w : World) (h : ¬ (1 ≤ size ∧ size ≤ 8)) :
    Calls Tryz.prog 80 #[.int .i64 size] w fun e w' => e = .returned (.bool false) ∧ w = w' := by
  by_cases h1 : 1 ≤ size
  · have h2 : ¬ size ≤ 8 := fun h2 => h ⟨h1, h2⟩
    go_enter Tryz.func80, Tryz.ntmps80
    go_wp2
    go_ret
    exact ⟨rfl, rfl⟩
  · go_enter Tryz.func80, Tryz.ntmps80
    go_wp2
    go_ret
    exact ⟨rfl, rfl⟩

theorem pPut_at {w : World} {v : Value} {l : List Int} (hs : BSl w v l) (hl : l.length ≤ 140737488355300) (n size : Int) (k : Nat) (hk : k ≤ 8) (hk1 : 1 ≤ k) (hsz : size = k) (h0 : 0 ≤ n) (h1 : n < 18446744073709551616) :
    Calls Tryz.prog 77 #[v, .int .u64 n, .int .i64 size] w (NewB w (l ++ lowB n k)) := by
  subst hsz
  obtain ⟨ao, cap, rfl, hcap⟩ := hs.shape
  have hby := hs.1
  have hpos := src_cells hs (w1 := w.alloc (.cells (Array.replicate (l.length + k) (.int .u8 0)) 5)) (fun p hp => World.cell?_alloc_lt w _ p hp) l.length
  rw [List.take_length] at hpos
  obtain ⟨N, hN⟩ : ∃ N, N = l.length := ⟨_, rfl⟩
  rw [← hN] at hl hcap hpos ⊢
  have hg2 : (w.alloc (.cells (Array.replicate (N + k) (.int .u8 0)) 5)).heap[w.heap.size]? = some (.cells (List.replicate (N + k) (Value.int .u8 0)).toArray 5 (0, 0)) := by
    rw [heap_alloc_new]; simp
  have hcl : (l.map (Value.int .u8)).length = N := by rw [List.length_map, ← hN]
  have hmm : N = Nat.min N N := by simp
  have hfit : 0 + (l.map (Value.int .u8)).length ≤ (List.replicate (N + k) (Value.int .u8 0)).length := by rw [List.length_map, ← hN]; simp
  have HN := Lib.hid hN
  have HG := Lib.hid hg2
  have HC := Lib.hid hcl
  have HM := Lib.hid hmm
  have HF := Lib.hid hfit
  have HP := Lib.hid hpos
  have HBY := Lib.hid hby
  have hbl : Below w.heap.size w (w.alloc (.cells (Array.replicate (N + k) (.int .u8 0)) 5)) := (Below.refl _ _).alloc (Nat.le_refl _) _
  have hkm : k ≤ 9223372036854775807 := by omega
  have hnk : N + k ≤ 200000000000000 := by omega
  clear hN hg2 hcl hmm hfit hpos hby hs
  go_enter Tryz.func77, Tryz.ntmps77
  go_wp2_with (first
    | (go_at_call 80; refine (pIsSize_yes _ _ ⟨by omega, by omega⟩).mono ?_; rintro e w' ⟨rfl, rfl⟩)
    | (at_make; refine wpList_make_u8c _ rfl _ _ rfl _ _ N (N + k) rfl rfl rfl (by push_cast; rfl) (by omega) (by omega) ?_)
    | (with_reducible refine wpList_copy_wrote rfl _ _ 59 59 rfl 5 Tryz.underlying59 (by kernel_rfl) _ _ _ _ _ _ rfl rfl w.heap.size 0 (List.replicate (N + k) (Value.int .u8 0)) 5 HG.out (l.map (Value.int .u8)) N HC.out HM.out (fun h => ⟨rfl, HP.out h⟩) HF.out (ints_oneCell _ _) ?_; intro w2 HG3 HW2))
  have hb2 : Below w.heap.size w w2 := hbl.trans (HW2.below (Nat.le_refl _))
  have hob : OB w2 w.heap.size (.slice (some ⟨w.heap.size, 0, none⟩) N (N + k)) l := by
    have h3 := HG3.out
    rw [HN.out]
    refine OB.of_heap (rest := List.replicate k (Value.int .u8 0)) HBY.out (Nat.le_refl _) ?_ (by simp) (by simp only [maxLen]; have := HN.out; omega)
    rw [h3]
    simp [splice, HN.out]
  clear HG3 HW2
  go_loopw [1, 7, 22] (fun c u i wr => ∃ (j : Nat) (m : Int), j ≤ k ∧ i = .int .i64 j ∧ c = .int .u64 m ∧ 0 ≤ m ∧ m < 18446744073709551616 ∧ Hid (m = n / 2 ^ (8 * j)) ∧ Hid (OB wr w.heap.size u (l ++ lowB n j)) ∧ Below w.heap.size w wr)
    (fun _ _ i _ => k - (intOf i).toNat)
  case atStart => exact ⟨0, n, by omega, rfl, rfl, h0, h1, by simp [Hid], by simp [Hid, lowB_zero]; exact hob, hb2⟩
  case round =>
    obtain ⟨j, m, hj, rfl, rfl, hm0, hm1, HM2, HO, hbr⟩ := hrel
    by_cases hlt : j < k
    · have hlen : (l ++ lowB n j).length + 1 ≤ 140737488355328 := by rw [List.length_append, lowB_length, ← HN.out]; omega
      have HLE := Lib.hid hlen
      clear hlen
      go_wp2_with (at_builtin; refine wpList_append_byte wr _ rfl _ _ rfl w.heap.size _ _ rfl HO.out ⟨by omega, by omega⟩ rfl HLE.out hbr.size ?_; intro v' w3 hob3 hb3)
      go_roundw
      case rel =>
        refine ⟨j + 1, m / 256, by omega, by go_num, rfl, by omega, by omega, ?_, ?_, hbr.trans (hb3)⟩
        · show _ = _
          rw [HM2.out, ← shr_step]; rfl
        · show OB _ _ _ _
          rw [lowB_succ, ← List.append_assoc, ← HM2.out]; exact hob3
      case measure => simp [intOf]; omega
    · go_wp2_with fail
      go_ret
      obtain rfl : j = k := by omega
      exact ⟨_, rfl, HO.out, hbr⟩

theorem pPut_no {w : World} {v : Value} {l : List Int} (hs : BSl w v l) (hl : l.length ≤ 140737488355300) (n size : Int) (hsz : ¬ (1 ≤ size ∧ size ≤ 8)) (h0 : 0 ≤ n) (h1 : n < 18446744073709551616) :
    Calls Tryz.prog 77 #[v, .int .u64 n, .int .i64 size] w (NewB w l) := by
  obtain ⟨ao, cap, rfl, hcap⟩ := hs.shape
  have hby := hs.1
  have hpos := src_cells hs (w1 := w.alloc (.cells (Array.replicate l.length (.int .u8 0)) 5)) (fun p hp => World.cell?_alloc_lt w _ p hp) l.length
  rw [List.take_length] at hpos
  obtain ⟨N, hN⟩ : ∃ N, N = l.length := ⟨_, rfl⟩
  rw [← hN] at hl hcap hpos ⊢
  have hg2 : (w.alloc (.cells (Array.replicate N (.int .u8 0)) 5)).heap[w.heap.size]? = some (.cells (List.replicate N (Value.int .u8 0)).toArray 5 (0, 0)) := by
    rw [heap_alloc_new]; simp
  have hcl : (l.map (Value.int .u8)).length = N := by rw [List.length_map, ← hN]
  have hmm : N = Nat.min N N := by simp
  have hfit : 0 + (l.map (Value.int .u8)).length ≤ (List.replicate N (Value.int .u8 0)).length := by rw [List.length_map, ← hN]; simp
  have HN := Lib.hid hN
  have HG := Lib.hid hg2
  have HC := Lib.hid hcl
  have HM := Lib.hid hmm
  have HF := Lib.hid hfit
  have HP := Lib.hid hpos
  have HBY := Lib.hid hby
  have hbl : Below w.heap.size w (w.alloc (.cells (Array.replicate N (.int .u8 0)) 5)) := (Below.refl _ _).alloc (Nat.le_refl _) _
  clear hN hg2 hcl hmm hfit hpos hby hs
  go_enter Tryz.func77, Tryz.ntmps77
  go_wp2_with (first
    | (go_at_call 80; refine (pIsSize_no _ _ hsz).mono ?_; rintro e w' ⟨rfl, rfl⟩)
    | (at_make; refine wpList_make_u8c _ rfl _ _ rfl _ _ N N rfl rfl rfl (by first | rfl | simp) (by omega) (by omega) ?_)
    | (with_reducible refine wpList_copy_wrote rfl _ _ 59 59 rfl 5 Tryz.underlying59 (by kernel_rfl) _ _ _ _ _ _ rfl rfl w.heap.size 0 (List.replicate N (Value.int .u8 0)) 5 HG.out (l.map (Value.int .u8)) N HC.out HM.out (fun h => ⟨rfl, HP.out h⟩) HF.out (ints_oneCell _ _) ?_; intro w2 HG3 HW2))
  have hb2 : Below w.heap.size w w2 := hbl.trans (HW2.below (Nat.le_refl _))
  have hob : OB w2 w.heap.size (.slice (some ⟨w.heap.size, 0, none⟩) N N) l := by
    have h3 := HG3.out
    rw [HN.out]
    refine OB.of_heap (rest := []) HBY.out (Nat.le_refl _) ?_ (by simp) (by simp only [maxLen]; have := HN.out; omega)
    rw [h3]
    simp [splice, HN.out]
  clear HG3 HW2
  refine wp_loop_rounds 1 ?_
  rw [rounds_succ]
  go_wp2_with fail
  go_ret
  exact ⟨_, rfl, hob, hb2⟩

theorem pPut_any {w : World} {v : Value} {l : List Int} (hs : BSl w v l) (hl : l.length ≤ 140737488355300) (n size : Int) (h0 : 0 ≤ n) (h1 : n < 18446744073709551616) :
    Calls Tryz.prog 77 #[v, .int .u64 n, .int .i64 size] w (NewB w (putS l n size)) := by
  unfold putS
  by_cases h : 1 ≤ size ∧ size ≤ 8
  · rw [if_pos h]
    exact pPut_at hs hl n size size.toNat (by omega) (by omega) (by omega) h0 h1
  · rw [if_neg h]
    exact pPut_no hs hl n size h h0 h1

end Go.Proofs.YtigbhdgcjklhoaaGreat

/- Contracts of package pack: Get, Sum; the reference's Get, Sum, Put. -/
namespace Go.Proofs.YtigbhdgcjklhoaaGreat
set_option maxRecDepth 100000
open Go.RowKit
set_option linter.unusedVariables false

theorem pGet_at {w : World} {b off cap : Nat} {l : List Int} (hby : Byt l) (hl : l.length ≤ 140737488355300)
    (hc : ∀ j, j < l.length → w.cell? ⟨b, off + j, none⟩ = some (.int .u8 (l.getD j 0))) (a k : Nat) (hk1 : 1 ≤ k) (hk : k ≤ 8) (hak : a + k ≤ l.length) :
    Calls Tryz.prog 69 #[.slice (some ⟨b, off, none⟩) l.length cap, .int .i64 a, .int .i64 k] w fun e w' => e = .returned (.tuple #[.int .u64 (getV l a k), .bool true]) ∧ w = w' := by
  obtain ⟨N, hN⟩ : ∃ N, N = l.length := ⟨_, rfl⟩
  rw [← hN] at hl hc hak ⊢
  have HN := Lib.hid hN
  have HC := Lib.hid hc
  have HB := Lib.hid (byt_mem hby)
  have HBY := Lib.hid hby
  clear hN hc hby
  go_enter Tryz.func69, Tryz.ntmps69
  go_wp2_with (go_at_call 80; refine (pIsSize_yes _ _ ⟨by omega, by omega⟩).mono ?_; rintro e w' ⟨rfl, rfl⟩)
  go_loop [8, 9] (fun c i => ∃ (j : Nat) (m : Int), j ≤ k ∧ i = .int .i64 ((j : Int) - 1) ∧ c = .int .u64 m ∧ Hid (m = getV l (a + j) (k - j)))
    (fun _ i => (intOf i + 1).toNat)
  case atStart => exact ⟨k, 0, by omega, rfl, rfl, by simp [Hid, getV_zero]⟩
  case round =>
    obtain ⟨j, m, hj, rfl, rfl, HM⟩ := hrel
    have hb := getV_bound HB.out (a + j) (k - j)
    rw [← HM.out] at hb
    by_cases hlt : 1 ≤ j
    · have hp := pow256_le (show k - j ≤ 7 by omega)
      have hm1 : m < 72057594037927936 := by omega
      have hm0 := hb.1
      have hx := HBY.out (a + j - 1)
      have hcx := HC.out (a + j - 1) (by omega)
      obtain ⟨x, hx'⟩ : ∃ x, x = l.getD (a + j - 1) 0 := ⟨_, rfl⟩
      rw [← hx'] at hx hcx
      have HX := Lib.hid hx'
      clear hx' hb hp
      have e1 : (a : Int) + ((j : Int) - 1) < (N : Int) := by omega
      have e2 : ((a : Int) + ((j : Int) - 1)).toNat = a + j - 1 := by omega
      go_wp2_with fail
      go_round
      case rel =>
        refine ⟨j - 1, _, by omega, by congr 1; omega, rfl, ?_⟩
        show _ = _
        have h8 := or_low m x 8 hm0 hx.1 (by omega) (by omega) (by omega)
        rw [show m * 2 ^ 8 = m * 256 from rfl] at h8
        rw [h8, show k - (j - 1) = k - j + 1 by omega, getV_head l _ _ (by have := HN.out; omega), show a + (j - 1) = a + j - 1 by omega, ← HX.out, show a + j - 1 + 1 = a + j by omega, ← HM.out]
        omega
      case measure => simp [intOf]; omega
    · go_wp2_with fail
      go_ret2
      obtain rfl : j = 0 := by omega
      exact ⟨by rw [HM.out]; simp, rfl⟩

theorem pGet_no {w : World} {ao : Option Addr} {len cap : Nat} (hl : len ≤ 140737488355300) (a k : Int) (h0 : -9223372036854775808 ≤ a) (h1 : a ≤ 9223372036854775807) (h : ¬ (1 ≤ k ∧ k ≤ 8 ∧ 0 ≤ a ∧ a + k ≤ len)) :
    Calls Tryz.prog 69 #[.slice ao len cap, .int .i64 a, .int .i64 k] w fun e w' => e = .returned (.tuple #[.int .u64 0, .bool false]) ∧ w = w' := by
  by_cases hk : 1 ≤ k ∧ k ≤ 8
  · by_cases ha : 0 ≤ a
    · have hh : (len : Int) - k < a := by omega
      have hk8 := hk.2
      have hk1 := hk.1
      go_enter Tryz.func69, Tryz.ntmps69
      go_wp2_with (go_at_call 80; refine (pIsSize_yes _ _ hk).mono ?_; rintro e w' ⟨rfl, rfl⟩)
      go_ret2
      exact ⟨rfl, rfl⟩
    · have ha' : a < 0 := by omega
      go_enter Tryz.func69, Tryz.ntmps69
      go_wp2_with (go_at_call 80; refine (pIsSize_yes _ _ hk).mono ?_; rintro e w' ⟨rfl, rfl⟩)
      go_ret2
      exact ⟨rfl, rfl⟩
  · go_enter Tryz.func69, Tryz.ntmps69
    go_wp2_with (go_at_call 80; refine (pIsSize_no _ _ hk).mono ?_; rintro e w' ⟨rfl, rfl⟩)
    go_ret2
    exact ⟨rfl, rfl⟩

theorem pSum_some {w : World} {b off cap : Nat} {l : List Int} (hl : l.length ≤ 140737488355300) (hby : Byt l)
    (hc : ∀ j, j < l.length → w.cell? ⟨b, off + j, none⟩ = some (.int .u8 (l.getD j 0))) :
    Calls Tryz.prog 79 #[.slice (some ⟨b, off, none⟩) l.length cap] w fun e w' => e = .returned (.int .u32 (sumS l)) ∧ w = w' := by
  obtain ⟨N, hN⟩ : ∃ N, N = l.length := ⟨_, rfl⟩
  rw [← hN] at hl hc ⊢
  have HN := Lib.hid hN
  have HC := Lib.hid hc
  have HBY := Lib.hid hby
  clear hN hc hby
  go_enter Tryz.func79, Tryz.ntmps79
  go_wp2_with fail
  go_loop [3, 8] (fun c i => ∃ (j : Nat) (m : Int), j ≤ N ∧ i = .int .i64 j ∧ c = .int .u32 m ∧ 0 ≤ m ∧ m < 4294967296 ∧ Hid (m = sumS (l.take j))) (fun _ i => N - (intOf i).toNat)
  case atStart => exact ⟨0, _, by omega, rfl, rfl, by omega, by omega, rfl⟩
  case round =>
    obtain ⟨j, m, hj, rfl, rfl, hm0, hm1, HM⟩ := hrel
    by_cases hlt : j < N
    · have hx := HBY.out j
      have hcx := HC.out j hlt
      obtain ⟨x, hx'⟩ : ∃ x, x = l.getD j 0 := ⟨_, rfl⟩
      rw [← hx'] at hx hcx
      have HX := Lib.hid hx'
      clear hx'
      go_wp2_with fail
      go_round
      case rel =>
        refine ⟨j + 1, _, by omega, by go_num, rfl, (fnvStep_bound m x).1, (fnvStep_bound m x).2, ?_⟩
        show _ = _
        rw [sumS_take l j (by have := HN.out; omega), ← HM.out, ← HX.out]; rfl
      case measure => simp [intOf]; omega
    · go_wp2_with fail
      go_ret
      exact ⟨ret_int (by rw [HM.out, List.take_of_length_le (by have := HN.out; omega)]), rfl⟩

theorem pSum_zero {w : World} {ao : Option Addr} {cap : Nat} :
    Calls Tryz.prog 79 #[.slice ao 0 cap] w fun e w' => e = .returned (.int .u32 (sumS [])) ∧ w = w' := by
  go_enter Tryz.func79, Tryz.ntmps79
  go_wp2_with fail
  refine wp_loop_rounds 1 ?_
  rw [rounds_succ]
  go_wp2_with fail
  go_ret
  exact ⟨rfl, rfl⟩

theorem pSum_any {w : World} {v : Value} {l : List Int} (hs : BSl w v l) (hl : l.length ≤ 140737488355300) :
    Calls Tryz.prog 79 #[v] w fun e w' => e = .returned (.int .u32 (sumS l)) ∧ w = w' := by
  by_cases h0 : l.length = 0
  · obtain ⟨ao, cap, rfl, _⟩ := hs.shape
    obtain rfl : l = [] := List.eq_nil_of_length_eq_zero h0
    exact pSum_zero
  · rcases hs.2 with ⟨_, rfl⟩ | ⟨⟨b, off, spot⟩, cap, rfl, _, hc⟩
    · simp at h0
    · obtain rfl : spot = none := (hc 0 (by omega)).2.1
      exact pSum_some hl hs.1 fun j hj => (hc j hj).2.2

/-- The document's Get: the number, and whether it is there. -/
def getN (l : List Int) (a k : Int) : Int := if 1 ≤ k ∧ k ≤ 8 ∧ 0 ≤ a ∧ a + k ≤ l.length then getV l a.toNat k.toNat else 0
def gotB (l : List Int) (a k : Int) : Bool := decide (1 ≤ k ∧ k ≤ 8 ∧ 0 ≤ a ∧ a + k ≤ l.length)
theorem pGet_any {w : World} {v : Value} {l : List Int} (hs : BSl w v l) (hl : l.length ≤ 140737488355300) (a k : Int) (h0 : -9223372036854775808 ≤ a) (h1 : a ≤ 9223372036854775807) :
    Calls Tryz.prog 69 #[v, .int .i64 a, .int .i64 k] w fun e w' => e = .returned (.tuple #[.int .u64 (getN l a k), .bool (gotB l a k)]) ∧ w = w' := by
  by_cases h : 1 ≤ k ∧ k ≤ 8 ∧ 0 ≤ a ∧ a + k ≤ l.length
  · rcases hs.2 with ⟨_, rfl⟩ | ⟨⟨b, off, spot⟩, cap, rfl, _, hc⟩
    · simp at h; omega
    · obtain rfl : spot = none := (hc 0 (by omega)).2.1
      have := pGet_at (cap := cap) hs.1 hl (fun j hj => (hc j hj).2.2) a.toNat k.toNat (by omega) (by omega) (by omega)
      rw [show ((a.toNat : Nat) : Int) = a by omega, show ((k.toNat : Nat) : Int) = k by omega] at this
      simp only [getN, gotB, if_pos h, decide_eq_true h]
      exact this
  · obtain ⟨ao, cap, rfl, _⟩ := hs.shape
    simp only [getN, gotB, if_neg h, decide_eq_false h]
    exact pGet_no hl a k h0 h1 h
end Go.Proofs.YtigbhdgcjklhoaaGreat

/- append of zeros ('append(s, make([]byte, n)...)') onto a []byte of one's own. -/
namespace Go.Proofs.YtigbhdgcjklhoaaGreat
set_option maxRecDepth 100000
open Go.RowKit

theorem zeroCells_u8 (m : Nat) : Builtin.zeroCells (Value.int .u8 0).cells m = Array.replicate m (.int .u8 0) := by
  apply Array.ext
  · simp [Builtin.zeroCells, Value.cells]
  · intro j h1 h2
    simp [Builtin.zeroCells, Value.cells, Nat.mod_one]

theorem wrap_zero : IntKind.i64.wrap 0 = 0 := by decide
theorem run_append_zeros (w : World) (B : Nat) (ty : TypeId) (v : Value) (n : Nat) (xs : List Value) (hown : w.ownsRow B 5 1 v n xs) (m : Nat) (hlen : n + m ≤ 140737488355328) (hB : B ≤ w.heap.size) :
    ∃ v' w', (Builtin.append_ #[59, 3] ty #[v, .int .i64 m]).run Tryz.prog w = .ok v' w' ∧ w'.ownsRow B 5 1 v' (n + m) (xs ++ List.replicate m (.int .u8 0)) ∧ w.grownBy w' v.ownBlock := by
  obtain ⟨i, h2, h3, h4, h5⟩ := info_parts infoU8
  have hxl : xs.length = n := by simpa using hown.1
  have hm1 : IntKind.i64.wrap (m : Int) = m := by rw [IntKind.wrap_i64]; omega
  have hm2 : ¬ (m : Int) < 0 := by omega
  have hm3 : ¬ 281474976710656 < (m : Int) := by omega
  have hlen2 : (xs ++ List.replicate m (Value.int .u8 0)).length = (n + m) * 1 := by simp [hxl]
  have grown : ∀ (old : Nat), old < n + m → ∀ (row : Option Nat),
      (w.drew.alloc (.cells (xs.toArray ++ Array.replicate m (.int .u8 0) ++ Array.replicate (grownCap w (n + m) old 5 - (n + m)) (.int .u8 0)) 5)).ownsRow B 5 1
        (.slice (some ⟨w.heap.size, 0, none⟩) (n + m) (grownCap w (n + m) old 5)) (n + m) (xs ++ List.replicate m (.int .u8 0)) ∧
      w.grownBy (w.drew.alloc (.cells (xs.toArray ++ Array.replicate m (.int .u8 0) ++ Array.replicate (grownCap w (n + m) old 5 - (n + m)) (.int .u8 0)) 5)) row := by
    intro old ho row
    have hge := grownCap_ge w (n + m) old 5
    have hcm : grownCap w (n + m) old 5 ≤ maxLen := grownCap_le_maxLen w (n + m) old 5 (by simp only [maxLen]; omega)
    refine ⟨⟨hlen2, .inr ⟨w.heap.size, _, _, rfl, hB, heap_alloc_new w.drew _, hge, hcm, ?_, ?_⟩⟩, ⟨rfl, rfl, rfl, by simp, fun k hk _ => Go.heap_alloc_old w.drew _ hk⟩⟩
    · simp [hxl]; omega
    · simp only [Array.toList_append, Array.toList_replicate]
      rw [← hlen2, List.take_left']
      · rfl
  have hz : (if m = 0 then (pure #[] : Sem (Array Value)) else pure (Builtin.zeroCells (Value.int .u8 0).cells m)) = pure (Array.replicate m (.int .u8 0)) := by
    by_cases h0 : m = 0
    · subst h0; simp
    · rw [if_neg h0, zeroCells_u8]
  rcases hown.2 with ⟨rfl, rfl⟩ | ⟨g, cap, cur, rfl, hbg, hg, hnc, hcm, hcs, htake⟩
  · obtain rfl : xs = [] := List.eq_nil_of_length_eq_zero hxl
    by_cases hm : m = 0
    · subst hm
      refine ⟨.slice none 0 0, w, ?_, World.ownsRow_nil w B 5 1, ⟨rfl, rfl, rfl, Nat.le_refl _, fun _ _ _ => rfl⟩⟩
      simp [Builtin.append_, run_underlying Tryz.underlying59, run_underlying Tryz.underlying3, sizeOf, typeInfo, h2, h4, h5, asInt, asIntOf, wrap_zero]
    · have hgr := grown 0 (by omega) (Value.ownBlock (.slice none 0 0))
      have h48 : ¬ (281474976710656 < Builtin.nextslicecap m 0 * 1) := by rw [nextslicecap_zero (by omega)]; omega
      simp only [Nat.zero_add, List.nil_append] at hgr ⊢
      refine ⟨_, _, ?_, hgr.1, hgr.2⟩
      have hc1 : ¬ 9223372036854775807 < (m : Int) := by omega
      simp only [Nat.mul_one] at h48
      simp [Builtin.append_, run_underlying Tryz.underlying59, run_underlying Tryz.underlying3, sizeOf, typeInfo, zeroValue, h2, h3, h4, h5, asInt, asIntOf, hm1, hm2, hm3, hm, hc1, h48, Question.forced, run_firstCells_none, newRow, grownCap]
      simp [zeroCells_u8]
  · by_cases hroom : n + m ≤ cap
    · have hst := run_storeCells_at Tryz.prog g n 5 (List.replicate m (Value.int .u8 0)) 0 cur w hg (by simp; omega) (fun u hu => by rw [List.eq_of_mem_replicate hu]; rfl)
      refine ⟨_, w.setRow g (cur.toList.take n ++ List.replicate m (Value.int .u8 0) ++ cur.toList.drop (n + m)).toArray, ?_, ⟨hlen2, .inr ⟨g, cap, _, rfl, hbg, setRow_heap w g cur _ 5 _ hg, hroom, hcm, ?_, ?_⟩⟩, ⟨rfl, rfl, rfl, by simp, fun k _ hk => setRow_other w g k _ (fun e => hk (by simp [Value.ownBlock, e]))⟩⟩
      · by_cases hm : m = 0
        · subst hm
          simp [Builtin.append_, run_underlying Tryz.underlying59, run_underlying Tryz.underlying3, sizeOf, typeInfo, h2, h4, h5, asInt, asIntOf, wrap_zero, hnc, storeCells]
          exact (setRow_self w g cur 5 (0, 0) hg).symm
        · simp [Builtin.append_, run_underlying Tryz.underlying59, run_underlying Tryz.underlying3, sizeOf, typeInfo, zeroValue, h2, h3, h4, h5, asInt, asIntOf, hm1, hm2, hm3, hm, hroom]
          rw [zeroCells_u8, Array.toList_replicate, Addr.add_lit, Nat.zero_add, hst]
          simp
      · simp; omega
      · have ht : cur.toList.take n = xs := by simpa using htake
        rw [ht, ← hlen2, List.take_left' rfl]
    · have hgr := grown cap (by omega) (Value.ownBlock (.slice (some ⟨g, 0, none⟩) n cap))
      refine ⟨_, _, ?_, hgr.1, hgr.2⟩
      have hn : ¬ (n + m ≤ cap) := hroom
      have hm0 : m ≠ 0 := by omega
      have h63' : ¬ (9223372036854775807 < ((n : Int) + (m : Int))) := by omega
      have h48 := growslice_fits (bytes := 1) (show cap < n + m by omega) (by omega)
      have h48' : ¬ (281474976710656 < Builtin.nextslicecap (n + m) cap) := by omega
      have hfo := run_firstCells_some (P := Tryz.prog) w.drew 1 n ⟨g, 0, none⟩ n cap xs (by simpa using hxl) (by
        have hc : w.ownsRow B 5 1 (.slice (some ⟨g, 0, none⟩) n cap) n xs := hown
        exact hc.cells (g := g) rfl)
      simp [Builtin.append_, run_underlying Tryz.underlying59, run_underlying Tryz.underlying3, sizeOf, typeInfo, zeroValue, h2, h3, h4, h5, asInt, asIntOf, hm1, hm2, hm3, hm0, hn, h63', h48', Question.forced, hfo, newRow, grownCap, zeroCells_u8]

/-- append(s, make([]byte, m)...). -/
theorem wpList_append_zeros (w : World) {ops : Array Oper} {rest : List Oper} {o : Oper} {a : Act} {Q : Exit → Act → World → Prop} (hgd : o.guard = none) (s x : Operand)
    (ho : o.op = .call { callee := .builtin .append, args := #[s, x], argTypes := #[59, 3] })
    (B : Nat) (v : Value) (l : List Int) (hs : a.eval s = v) (hown : OB w B v l) (C : Int) (m : Nat) (hx : a.eval x = .int .i64 C) (hC : C = m) (hlen : l.length + m ≤ 140737488355328) (hB : B ≤ w.heap.size)
    (h : ∀ v' w', OB w' B v' (l ++ List.replicate m 0) → Below B w w' → wpList Tryz.prog ops Q rest (a.put o.dst v') w') : wpList Tryz.prog ops Q (o :: rest) a w := by
  subst hC
  obtain ⟨v', w', hr, h2, h3⟩ := run_append_zeros w B o.type v l.length _ hown.2 m hlen hB
  refine wpList_plain hgd fun K hK => ?_
  unfold Oper.wp execOp
  simp only [ho, resolve, invoke, builtin, Sem.run_bind, Sem.run_pure, Result.andThen_ok, List.map_toArray, List.map_cons, List.map_nil, hs, hx, hr]
  refine hK _ _ (h v' w' ⟨byt_append hown.1 (byt_replicate m), ?_⟩ ((Below.refl _ _).grown h3 hB fun k hk => (hown.2.lt k hk).1))
  simpa using h2

end Go.Proofs.YtigbhdgcjklhoaaGreat

/- Contracts of package pack and of the reference: Seal, Open. -/
namespace Go.Proofs.YtigbhdgcjklhoaaGreat
set_option maxRecDepth 100000
open Go.RowKit
set_option linter.unusedVariables false

theorem pSeal_no {w : World} {ao : Option Addr} {len cap : Nat} (h : 252 < len) :
    Calls Tryz.prog 76 #[.slice ao len cap] w fun e w' => e = .returned (.tuple #[.slice none 0 0, .int .i64 1]) ∧ w = w' := by
  go_enter Tryz.func76, Tryz.ntmps76
  go_wp2_with fail
  go_ret2
  exact ⟨rfl, rfl⟩
/-- What Seal hands back when the content fits. -/
def SealOut (l : List Int) (w : World) (e : Ending) (w' : World) : Prop :=
  ∃ v, e = .returned (.tuple #[v, .int .i64 0]) ∧ OB w' w.heap.size v (sealS l) ∧ Below w.heap.size w w'

theorem pSum_c {w0 w : World} {v : Value} {l : List Int} (hs : BSl w0 v l) (hk : Below w0.heap.size w0 w) (hl : l.length ≤ 140737488355300) (S : Int) (hS : S = sumS l) :
    Calls Tryz.prog 79 #[v] w fun e w' => e = .returned (.int .u32 S) ∧ w = w' := by rw [hS]; exact pSum_any (hs.below hk) hl
theorem pPut4 {w : World} {v : Value} {l : List Int} (hs : BSl w v l) (hl : l.length = 252) (S : Int) (hS : S = sumS l) :
    Calls Tryz.prog 77 #[v, .int .u64 S, .int .i64 4] w (NewB w (l ++ lowB (sumS l) 4)) := by
  have hb := sumS_bound l
  rw [hS]
  exact pPut_at hs (by omega) _ 4 4 (by omega) (by omega) rfl hb.1 (by omega)
theorem pSeal_yes {w : World} {v : Value} {l : List Int} (hs : BSl w v l) (hl : l.length ≤ 252) : Calls Tryz.prog 76 #[v] w (SealOut l w) := by
  obtain ⟨ao, cap, rfl, hcap⟩ := hs.shape
  obtain ⟨M, hMM⟩ : ∃ M : Nat, M = 252 := ⟨_, rfl⟩
  have hMI : (252 : Int) = (M : Int) := by omega
  have hby := hs.1
  have hpos := src_cells hs (w1 := w.alloc (.cells (Array.replicate M (.int .u8 0)) 5)) (fun p hp => World.cell?_alloc_lt w _ p hp) l.length
  rw [List.take_length] at hpos
  have hf1 := fillS_length l hl
  obtain ⟨F, hF⟩ : ∃ F, F = fillS l := ⟨_, rfl⟩
  obtain ⟨S, hS⟩ : ∃ S, S = sumS F := ⟨_, rfl⟩
  have hSb := sumS_bound F
  rw [← hS] at hSb
  have hFs : sealS l = F ++ lowB (sumS F) 4 := by rw [hF]; rfl
  rw [← hF] at hf1
  obtain ⟨N, hN⟩ : ∃ N, N = l.length := ⟨_, rfl⟩
  rw [← hN] at hl hcap ⊢
  have hg2 : (w.alloc (.cells (Array.replicate M (.int .u8 0)) 5)).heap[w.heap.size]? = some (.cells (List.replicate M (Value.int .u8 0)).toArray 5 (0, 0)) := by
    rw [heap_alloc_new]; simp
  have hcl : (l.map (Value.int .u8)).length = N := by rw [List.length_map, ← hN]
  have hmm : N = Nat.min N M := (Nat.min_eq_left (by omega)).symm
  have hfit : 0 + (l.map (Value.int .u8)).length ≤ (List.replicate M (Value.int .u8 0)).length := by rw [List.length_map, ← hN, hMM]; rw [List.length_replicate]; omega
  have HN := Lib.hid hN
  have HMM := Lib.hid hMM
  have HMI := Lib.hid hMI
  have hMle : M ≤ 200000000000000 := by omega
  have hNM : N ≤ M := by omega
  have HG := Lib.hid hg2
  have HC := Lib.hid hcl
  have HM := Lib.hid hmm
  have HF := Lib.hid hfit
  have HP := Lib.hid hpos
  have HBY := Lib.hid hby
  have HFF := Lib.hid hF
  have HSS := Lib.hid hS
  have HF1 := Lib.hid hf1
  have HFS := Lib.hid hFs
  have hbl : Below w.heap.size w (w.alloc (.cells (Array.replicate M (.int .u8 0)) 5)) := (Below.refl _ _).alloc (Nat.le_refl _) _
  clear hN hg2 hcl hmm hfit hpos hby hs hF hS hf1 hFs hMM hMI
  go_enter Tryz.func76, Tryz.ntmps76
  go_wp2_with (first
    | (at_make; refine wpList_make_u8 _ rfl _ _ rfl _ M rfl rfl HMI.out hMle ?_)
    | (with_reducible refine wpList_copy_wrote rfl _ _ 59 59 rfl 5 Tryz.underlying59 (by kernel_rfl) _ _ _ _ _ _ rfl rfl w.heap.size 0 (List.replicate M (Value.int .u8 0)) 5 HG.out (l.map (Value.int .u8)) N HC.out HM.out (fun h => ⟨rfl, HP.out h⟩) HF.out (ints_oneCell _ _) ?_
       intro w2 HG3 HW2
       have hb2 : Below w.heap.size w w2 := hbl.trans (HW2.below (Nat.le_refl _))
       have hob : OB w2 w.heap.size (.slice (some ⟨w.heap.size, 0, none⟩) M M) F := by
         have h3 := HG3.out
         have h4 : splice (List.replicate M (Value.int .u8 0)) 0 (l.map (Value.int .u8)) = F.map (Value.int .u8) ++ [] := by
           rw [HFF.out, fillS, HMM.out.symm]; simp [splice, ← HN.out]
         rw [h4] at h3
         have h5 := OB.of_heap (cap := M) (rest := []) (l := F) (B := w.heap.size) (by rw [HFF.out]; exact byt_append HBY.out (byt_replicate _)) (Nat.le_refl _) h3 (by rw [HF1.out, HMM.out]; rfl) (by rw [HMM.out]; decide)
         rw [HF1.out, ← HMM.out] at h5; exact h5
       clear HG3 HW2)
    | (go_at_call 79; refine (pSum_c hob.bsl (Below.refl _ _) (by rw [HF1.out]; omega) S HSS.out).mono ?_; rintro e w' ⟨rfl, rfl⟩)
    | (go_at_call 77; refine (pPut4 hob.bsl HF1.out S HSS.out).mono ?_; rintro e w3 ⟨v3, rfl, hob3, hb3⟩))
  go_ret2
  refine ⟨v3, rfl, ?_, hb2.trans (hb3.mono hb2.size)⟩
  rw [HFS.out]; exact hob3.more hb2.size

end Go.Proofs.YtigbhdgcjklhoaaGreat
