/- Transactions: numbers that are formed, blocks that are whole; contracts of slices.Index, slices.Contains, and of package txn: formedNumbers, wholeBlocks. -/
import Derived.Test.YtmjndpmpeidhaaaTxnM
import Derived.Test.YtmjndpmpeidhaaaMemI
import Derived.Test.YtmjndpmpeidhaaaMemB
import Derived.BigQuiet
namespace Go.Proofs.Ytmjndpmpeidhaaa
open Go.RowKit
set_option linter.unusedVariables false

def hasI (l : List Int) (n : Int) : Bool := l.any fun x => x == n
theorem hasI_yes {l : List Int} {n : Int} (k : Nat) (hk : k < l.length) (h : l.getD k 0 = n) : hasI l n = true := by
  unfold hasI
  rw [List.any_eq_true]
  refine ⟨l[k], List.getElem_mem hk, ?_⟩
  have e : l.getD k 0 = l[k] := by simp [List.getD_eq_getElem?_getD, hk]
  rw [← e, h]; simp
theorem hasI_no {l : List Int} {n : Int} (h : ∀ k, k < l.length → l.getD k 0 ≠ n) : hasI l n = false := by
  unfold hasI
  rw [List.any_eq_false]
  intro x hx
  obtain ⟨k, hk, rfl⟩ := List.getElem_of_mem hx
  have e : l.getD k 0 = l[k] := by simp [List.getD_eq_getElem?_getD, hk]
  have := h k hk
  rw [e] at this
  simpa using this
theorem newT_has (N : List Int) (i : Nat) : newT N i = !(hasI (N.take i) (N.getD i 0)) := by
  unfold newT hasI
  rw [List.not_any_eq_all_not]

/-- What is asked of number i; of all numbers. -/
def okN (N : List Int) (i : Nat) : Bool := inP9 (N.getD i 0) && newT N i
def frmNK (N : List Int) (k : Nat) : Bool := (List.range k).all fun i => okN N i
def frmNs (N : List Int) : Bool := decide (N.length ≤ 37) && frmNK N N.length
theorem frmNK_iff (N : List Int) (k : Nat) : frmNK N k = true ↔ ∀ i, i < k → okN N i = true := by
  unfold frmNK
  rw [List.all_eq_true]
  exact ⟨fun h i hi => h i (List.mem_range.2 hi), fun h i hi => h i (List.mem_range.1 hi)⟩
theorem frmNs_no {N : List Int} (i : Nat) (hi : i < N.length) (h : okN N i = false) : frmNs N = false := by
  cases e : frmNs N
  · rfl
  · unfold frmNs at e
    rw [Bool.and_eq_true] at e
    rw [(frmNK_iff N _).1 e.2 i hi] at h; cases h
theorem frmNs_long {N : List Int} (h : 37 < N.length) : frmNs N = false := by
  unfold frmNs; rw [decide_eq_false (by omega)]; rfl
theorem frmNs_yes {N : List Int} (h1 : N.length ≤ 37) (h : ∀ i, i < N.length → okN N i = true) : frmNs N = true := by
  unfold frmNs; rw [decide_eq_true h1, (frmNK_iff N _).2 h]; rfl
/-- The first k blocks are whole. -/
def whole (D : List (List Int)) : Bool := (List.range D.length).all fun i => decide ((D.getD i []).length = 256)
theorem whole_iff (D : List (List Int)) : whole D = true ↔ ∀ i, i < D.length → (D.getD i []).length = 256 := by
  unfold whole
  rw [List.all_eq_true]
  exact ⟨fun h i hi => of_decide_eq_true (h i (List.mem_range.2 hi)), fun h i hi => decide_eq_true (h i (List.mem_range.1 hi))⟩
theorem whole_no {D : List (List Int)} (i : Nat) (hi : i < D.length) (h : (D.getD i []).length ≠ 256) : whole D = false := by
  cases e : whole D
  · rfl
  · exact absurd ((whole_iff D).1 e i hi) h
theorem frmT_parts (N : List Int) (D : List (List Int)) : frmT N D = (frmNs N && (decide (D.length = N.length) && whole D)) := by
  by_cases h1 : N.length ≤ 37
  · by_cases h2 : D.length = N.length
    · unfold frmT frmNs whole
      rw [decide_eq_true h1, decide_eq_true h2, h2, Bool.true_and, Bool.true_and, Bool.true_and]
      have : ∀ k, frmTK N D k = (frmNK N k && (List.range k).all fun i => decide ((D.getD i []).length = 256)) := fun k => by
        rw [Bool.eq_iff_iff, Bool.and_eq_true, frmTK_iff, frmNK_iff, List.all_eq_true]
        constructor
        · intro h
          refine ⟨fun i hi => ?_, fun i hi => ?_⟩
          · have := h i hi
            unfold okT9 at this
            unfold okN
            rw [Bool.and_eq_true, Bool.and_eq_true] at this
            rw [this.1, this.2.2]; rfl
          · have := h i (List.mem_range.1 hi)
            unfold okT9 at this
            rw [Bool.and_eq_true, Bool.and_eq_true] at this
            exact this.2.1
        · rintro ⟨ha, hb⟩ i hi
          have h3 := ha i hi
          have h4 := hb i (List.mem_range.2 hi)
          unfold okN at h3
          rw [Bool.and_eq_true] at h3
          unfold okT9
          rw [h3.1, h3.2, h4]; rfl
      exact this _
    · rw [frmT_len h2, decide_eq_false h2]; simp
  · rw [frmT_long (by omega), frmNs_long (by omega)]; rfl
theorem frmNs_of {N : List Int} (h : frmNs N = true) : N.length ≤ 37 ∧ ∀ i, i < N.length → 0 ≤ N.getD i 0 ∧ N.getD i 0 ≤ 767 := by
  unfold frmNs at h
  rw [Bool.and_eq_true, decide_eq_true_eq, frmNK_iff] at h
  refine ⟨h.1, fun i hi => ?_⟩
  have := h.2 i hi
  unfold okN inP9 at this
  rw [Bool.and_eq_true, decide_eq_true_eq] at this
  exact this.1

theorem slIndex_of {w : World} {v : Value} {l : List Int} (hs : ISl w v l) (hl : l.length ≤ 1000000) (n : Int) : Calls Try.prog 36 #[v, .int .i64 n] w fun e w' => (∃ r : Int, e = .returned (.int .i64 r) ∧ decide (0 ≤ r) = hasI l n ∧ -1 ≤ r ∧ r ≤ 1000000) ∧ w = w' := by
  obtain ⟨ao, cap, rfl, hc⟩ := hs.open'
  have hyes := fun k (hk : k < l.length) => hasI_yes (l := l) (n := n) k hk
  have hno := hasI_no (l := l) (n := n)
  obtain ⟨R, hR⟩ : ∃ R, R = hasI l n := ⟨_, rfl⟩
  rw [← hR] at hyes hno ⊢
  obtain ⟨N, hN⟩ : ∃ N, N = l.length := ⟨_, rfl⟩
  rw [← hN] at hc hno hyes hl ⊢
  have HC := Lib.hid hc
  have HNO := Lib.hid hno
  have HYE := Lib.hid hyes
  clear hc hno hyes hR hs hN
  go_enter Try.func36, Try.ntmps36
  go_wp2
  go_loop [8] (fun i => ∃ k : Nat, k ≤ N ∧ i = .int .i64 k ∧ Hid (∀ j, j < k → l.getD j 0 ≠ n)) (fun i => N - (intOf i).toNat)
  case atStart => exact ⟨0, by omega, rfl, fun j hj => absurd hj (Nat.not_lt_zero _)⟩
  case round =>
    obtain ⟨k, hk, rfl, HK⟩ := hrel
    by_cases hlt : k < N
    · obtain ⟨b, off, rfl, _, hcc⟩ := HC.out (by omega)
      have hck := hcc k hlt
      have hy1 := HYE.out k hlt
      obtain ⟨x, hx⟩ : ∃ x, x = l.getD k 0 := ⟨_, rfl⟩
      rw [← hx] at hck hy1
      have HX := Lib.hid hx
      have HY1 := Lib.hid hy1
      have ek : (k : Int) < (N : Int) := by omega
      clear hx hcc hy1
      by_cases hf : n = x
      · have hR := HY1.out hf.symm
        subst hR
        subst hf
        go_wp2
        go_ret
        exact ⟨⟨_, rfl, by simp, by omega, by omega⟩, rfl⟩
      · have HF := Lib.hid hf
        go_wp2
        go_round
        case rel =>
          refine ⟨k + 1, by omega, by go_num, fun j hj => ?_⟩
          by_cases e : j = k
          · subst e; rw [← HX.out]; exact fun h => HF.out h.symm
          · exact HK.out j (by omega)
        case measure => simp [intOf]; omega
    · obtain rfl : k = N := by omega
      have hR := HNO.out HK.out
      subst hR
      go_wp2
      go_ret
      exact ⟨⟨_, rfl, by decide, by decide, by decide⟩, rfl⟩
theorem slCont_is {w : World} {v : Value} {l : List Int} (hs : ISl w v l) (hl : l.length ≤ 1000000) (n : Int) (B : Bool) (hB : hasI l n = B) : Calls Try.prog 30 #[v, .int .i64 n] w fun e w' => e = .returned (.bool B) ∧ w = w' := by
  have K := Lib.hid (slIndex_of hs hl n)
  rw [hB] at K
  clear hB hs hl
  go_enter Try.func30, Try.ntmps30
  go_wp2_with (go_at_call 36; (with_reducible refine K.out.mono ?_); rintro e w2 ⟨⟨r, rfl, hr, hr0, hr1⟩, rfl⟩)
  go_ret
  exact ⟨by rw [← hr]; rfl, rfl⟩
end Go.Proofs.Ytmjndpmpeidhaaa
