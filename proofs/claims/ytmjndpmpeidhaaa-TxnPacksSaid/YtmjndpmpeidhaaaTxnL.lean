/- The law's few, Few, Theirs, awake. -/
import Derived.Test.YtmjndpmpeidhaaaTxnK
import Derived.Laws.Rows
namespace Go.Proofs.Ytmjndpmpeidhaaa
open Go.RowKit
set_option linter.unusedVariables false

/-- How many bytes the first k have; is it few? -/
def sumK9 (L : List (List Int)) : Nat → Int
  | 0 => 0
  | k + 1 => sumK9 L k + ((L.getD k []).length : Int)
def okF9 (L : List (List Int)) (k : Nat) : Bool := decide (k < 60) && decide (sumK9 L (k + 1) ≤ 20000)
def fewS (L : List (List Int)) : Bool := (List.range L.length).all fun k => okF9 L k
def FewS (N : List Int) (D : List (List Int)) : Bool := fewS D && decide (N.length ≤ 60)
theorem fewS_iff (L : List (List Int)) : fewS L = true ↔ ∀ k, k < L.length → okF9 L k = true := by
  unfold fewS
  rw [List.all_eq_true]
  exact ⟨fun h i hi => h i (List.mem_range.2 hi), fun h i hi => h i (List.mem_range.1 hi)⟩
theorem fewS_no {L : List (List Int)} (k : Nat) (hk : k < L.length) (h : okF9 L k = false) : fewS L = false := by
  cases e : fewS L
  · rfl
  · rw [(fewS_iff L).1 e k hk] at h; cases h
theorem fewS_len {L : List (List Int)} (h : fewS L = true) : L.length ≤ 60 := by
  by_cases h0 : L.length = 0
  · omega
  · have := (fewS_iff L).1 h (L.length - 1) (by omega)
    unfold okF9 at this
    rw [Bool.and_eq_true, decide_eq_true_eq] at this
    omega
theorem sumK9_pos (L : List (List Int)) (k : Nat) : 0 ≤ sumK9 L k := by
  induction k with
  | zero => exact Int.le_refl _
  | succ k ih => unfold sumK9; omega
theorem okF9_of {L : List (List Int)} {k : Nat} (h : ∀ j, j < k → okF9 L j = true) : k ≤ 60 ∧ sumK9 L k ≤ 20000 := by
  cases k with
  | zero => exact ⟨by omega, by unfold sumK9; omega⟩
  | succ k =>
    have := h k (by omega)
    unfold okF9 at this
    rw [Bool.and_eq_true, decide_eq_true_eq, decide_eq_true_eq] at this
    exact ⟨by omega, this.2⟩
theorem few9_is {w : World} {v : Value} {L : List (List Int)} (hs : BBSl w v L) (hr : ∀ j, (L.getD j []).length ≤ 140737488355328) (B : Bool) (hB : fewS L = B) :
    Calls Try.prog 6 #[v] w fun e w' => e = .returned (.bool B) ∧ w = w' := by
  have HNO := Lib.hid (fun k hk h => fewS_no (L := L) k hk h)
  have HYE := Lib.hid ((fewS_iff L).2)
  rw [hB] at HNO HYE
  obtain ⟨ao, cap, rfl, _, hc⟩ := hs.open'
  obtain ⟨n, hn⟩ : ∃ n, n = L.length := ⟨_, rfl⟩
  rw [← hn] at hc HNO HYE ⊢
  have HC := Lib.hid hc
  have HR := Lib.hid hr
  clear hs hc hr hn hB
  go_enter Try.func6, Try.ntmps6
  go_wp2
  go_loop [3, 7] (fun s i => ∃ k : Nat, k ≤ n ∧ i = .int .i64 k ∧ s = .int .i64 (sumK9 L k) ∧ Hid (∀ j, j < k → okF9 L j = true)) (fun _ i => n - (intOf i).toNat)
  case atStart => exact ⟨0, by omega, rfl, rfl, fun j hj => absurd hj (Nat.not_lt_zero _)⟩
  case round =>
    obtain ⟨k, hk, rfl, rfl, HK⟩ := hrel
    obtain ⟨h60, ht1⟩ := okF9_of HK.out
    have ht0 := sumK9_pos L k
    by_cases hlt : k < n
    · obtain ⟨b, off, rfl, _, hcc⟩ := HC.out (by omega)
      obtain ⟨u, hck, hu⟩ := hcc k hlt
      obtain ⟨uo, uc, rfl, _⟩ := hu.shape
      have hrk := HR.out k
      have hno := HNO.out k hlt
      have hsk : sumK9 L (k + 1) = sumK9 L k + ((L.getD k []).length : Int) := rfl
      have hok : okF9 L k = (decide (k < 60) && decide (sumK9 L (k + 1) ≤ 20000)) := rfl
      rw [hsk] at hok
      obtain ⟨y, hy⟩ : ∃ y, y = (L.getD k []).length := ⟨_, rfl⟩
      rw [← hy] at hck hrk hsk hok
      generalize sumK9 L k = t at ht0 ht1 hsk hok ⊢
      have HSK := Lib.hid hsk
      have HOK := Lib.hid hok
      have HN1 := Lib.hid hno
      have ek : (k : Int) < (n : Int) := by omega
      clear hcc hu hy hsk hok hno
      by_cases h1 : k = 60
      · have hR := HN1.out (by rw [HOK.out, decide_eq_false (by omega)]; rfl)
        subst hR
        subst h1
        go_wp2
        go_ret
        exact ⟨rfl, rfl⟩
      · have h60i : ¬ (60 : Int) ≤ (k : Int) := by omega
        by_cases h2 : (20000 : Int) < t + (y : Int)
        · have hR := HN1.out (by rw [HOK.out, decide_eq_false (by omega : ¬ t + (y : Int) ≤ 20000), Bool.and_false])
          subst hR
          go_wp2
          go_ret
          exact ⟨rfl, rfl⟩
        · have HOT : Hid (okF9 L k = true) := Lib.hid (by rw [HOK.out, decide_eq_true (by omega), decide_eq_true (by omega)]; rfl)
          go_wp2
          go_round
          case rel =>
            refine ⟨k + 1, by omega, by go_num, by rw [HSK.out], fun j hj => ?_⟩
            by_cases e : j = k
            · subst e; exact HOT.out
            · exact HK.out j (by omega)
          case measure => simp [intOf]; omega
    · obtain rfl : k = n := by omega
      have hR := HYE.out HK.out
      subst hR
      go_wp2
      go_ret
      exact ⟨rfl, rfl⟩
theorem Few9_is {w : World} {v : Value} {q : Int} {N : List Int} {D : List (List Int)} (hv : TxV w v q N D) (hr : ∀ j, (D.getD j []).length ≤ 140737488355328) (B : Bool) (hB : FewS N D = B) :
    Calls Try.prog 5 #[v] w fun e w' => e = .returned (.bool B) ∧ Below w.heap.size w w' := by
  have HNO := Lib.hid (fun k hk h => show B = false by rw [← hB]; unfold FewS; rw [fewS_no (L := D) k hk h]; rfl)
  have HYE := Lib.hid (fun h => show decide (N.length ≤ 60) = B by rw [← hB]; unfold FewS; rw [(fewS_iff D).2 h]; rfl)
  obtain ⟨no, nc, ao, cap, rfl, _, hD⟩ := hv
  obtain ⟨_, _, t3, _, hc⟩ := hD.open'
  obtain ⟨rfl, rfl⟩ := And.intro (Value.slice.inj t3).1 (Value.slice.inj t3).2.2
  obtain ⟨m, hm⟩ : ∃ m, m = N.length := ⟨_, rfl⟩
  obtain ⟨n, hn⟩ : ∃ n, n = D.length := ⟨_, rfl⟩
  rw [← hn] at hc HNO HYE ⊢
  rw [← hm] at HYE ⊢
  have hbx := below_box w (.cells #[.int .u32 q, .slice no m nc, .slice ao n cap] 26)
  have hnx := heap_alloc_new w (.cells #[.int .u32 q, .slice no m nc, .slice ao n cap] 26)
  have HC := Lib.hid hc
  have HR := Lib.hid hr
  clear hD hc hr hn hm t3 hB
  go_enter Try.func5, Try.ntmps5
  go_upto_region 1 with (fail)
  generalize w.alloc (.cells #[.int .u32 q, .slice no m nc, .slice ao n cap] 26) = w2 at hbx hnx ⊢
  have d1 : w2.cell? ⟨w.heap.size, 1, none⟩ = some (.slice no m nc) := by rw [cell_of_row _ _ _ _ _ _ hnx]; rfl
  have d2 : w2.cell? ⟨w.heap.size, 2, none⟩ = some (.slice ao n cap) := by rw [cell_of_row _ _ _ _ _ _ hnx]; rfl
  have HB := Lib.hid hbx
  clear hnx hbx
  go_wp2
  go_loop [3, 8] (fun s i => ∃ k : Nat, k ≤ n ∧ i = .int .i64 k ∧ s = .int .i64 (sumK9 D k) ∧ Hid (∀ j, j < k → okF9 D j = true)) (fun _ i => n - (intOf i).toNat)
  case atStart => exact ⟨0, by omega, rfl, rfl, fun j hj => absurd hj (Nat.not_lt_zero _)⟩
  case round =>
    obtain ⟨k, hk, rfl, rfl, HK⟩ := hrel
    obtain ⟨h60, ht1⟩ := okF9_of HK.out
    have ht0 := sumK9_pos D k
    by_cases hlt : k < n
    · obtain ⟨b, off, rfl, hb, hcc⟩ := HC.out (by omega)
      obtain ⟨u, hcu, hu⟩ := hcc k hlt
      have hck := (HB.out.cell (p := ⟨b, off + k, none⟩) hb).trans hcu
      obtain ⟨uo, uc, rfl, _⟩ := hu.shape
      have hrk := HR.out k
      have hno := HNO.out k hlt
      have hsk : sumK9 D (k + 1) = sumK9 D k + ((D.getD k []).length : Int) := rfl
      have hok : okF9 D k = (decide (k < 60) && decide (sumK9 D (k + 1) ≤ 20000)) := rfl
      rw [hsk] at hok
      obtain ⟨y, hy⟩ : ∃ y, y = (D.getD k []).length := ⟨_, rfl⟩
      rw [← hy] at hck hrk hsk hok
      generalize sumK9 D k = t at ht0 ht1 hsk hok ⊢
      have HSK := Lib.hid hsk
      have HOK := Lib.hid hok
      have HN1 := Lib.hid hno
      have ek : (k : Int) < (n : Int) := by omega
      clear hcc hu hy hsk hok hno hcu hb
      by_cases h1 : k = 60
      · have hR := HN1.out (by rw [HOK.out, decide_eq_false (by omega)]; rfl)
        subst hR
        subst h1
        go_wp2
        go_ret
        exact ⟨rfl, HB.out⟩
      · have h60i : ¬ (60 : Int) ≤ (k : Int) := by omega
        by_cases h2 : (20000 : Int) < t + (y : Int)
        · have hR := HN1.out (by rw [HOK.out, decide_eq_false (by omega : ¬ t + (y : Int) ≤ 20000), Bool.and_false])
          subst hR
          go_wp2
          go_ret
          exact ⟨rfl, HB.out⟩
        · have HOT : Hid (okF9 D k = true) := Lib.hid (by rw [HOK.out, decide_eq_true (by omega), decide_eq_true (by omega)]; rfl)
          go_wp2
          go_round
          case rel =>
            refine ⟨k + 1, by omega, by go_num, by rw [HSK.out], fun j hj => ?_⟩
            by_cases e : j = k
            · subst e; exact HOT.out
            · exact HK.out j (by omega)
          case measure => simp [intOf]; omega
    · obtain rfl : k = n := by omega
      have HR2 := Lib.hid (HYE.out HK.out)
      by_cases hm : m ≤ 60
      · have hmi : (m : Int) ≤ 60 := by omega
        rw [decide_eq_true hm] at HR2
        have hR := HR2.out
        subst hR
        go_wp2
        go_ret
        exact ⟨rfl, HB.out⟩
      · have hmi : ¬ (m : Int) ≤ 60 := by omega
        rw [decide_eq_false hm] at HR2
        have hR := HR2.out
        subst hR
        go_wp2
        go_ret
        exact ⟨rfl, HB.out⟩
theorem Theirs9_of (w : World) (q : Int) (no ao : Option Addr) (n nc m dc : Nat) :
    Calls Try.prog 8 #[.agg #[.int .u32 q, .slice no n nc, .slice ao m dc]] w fun e w' => e = .returned (.agg #[.int .u32 q, .slice no n nc, .slice ao m dc]) ∧ Below w.heap.size w w' := by
  have hbx := below_box w (.cells #[.int .u32 q, .slice no n nc, .slice ao m dc] 26)
  have hnx := heap_alloc_new w (.cells #[.int .u32 q, .slice no n nc, .slice ao m dc] 26)
  have hsx : (w.alloc (.cells #[.int .u32 q, .slice no n nc, .slice ao m dc] 26)).heap.size = w.heap.size + 1 := by simp
  have hby := below_box (w.alloc (.cells #[.int .u32 q, .slice no n nc, .slice ao m dc] 26)) (.cells #[.int .u32 0, .slice none 0 0, .slice none 0 0] 33)
  have hny := heap_alloc_new (w.alloc (.cells #[.int .u32 q, .slice no n nc, .slice ao m dc] 26)) (.cells #[.int .u32 0, .slice none 0 0, .slice none 0 0] 33)
  go_enter Try.func8, Try.ntmps8
  go_upto_region 1 with (fail)
  rw [hsx] at hny hby
  have hno := (hby.block w.heap.size (by omega)).trans hnx
  have hb2 := hbx.trans (hby.mono (Nat.le_succ _))
  generalize (w.alloc (.cells #[.int .u32 q, .slice no n nc, .slice ao m dc] 26)).alloc (.cells #[.int .u32 0, .slice none 0 0, .slice none 0 0] 33) = w2 at hno hny hb2 ⊢
  have d0 : w2.cell? ⟨w.heap.size, 0, none⟩ = some (.int .u32 q) := by rw [cell_of_row _ _ _ _ _ _ hno]; rfl
  have d1 : w2.cell? ⟨w.heap.size, 1, none⟩ = some (.slice no n nc) := by rw [cell_of_row _ _ _ _ _ _ hno]; rfl
  have d2 : w2.cell? ⟨w.heap.size, 2, none⟩ = some (.slice ao m dc) := by rw [cell_of_row _ _ _ _ _ _ hno]; rfl
  clear hbx hnx hsx hby hno
  go_wp2_with (with_reducible refine wpList_store_t3 rfl 33 sizeT (.tmp 2) (.tmp 3) rfl (w.heap.size + 1) rfl _ _ _ _ _ _ rfl rfl rfl rfl _ hny ?_; intro w9 hw9 hr9)
  refine bodyPost_ret (results_cell_row rfl _ _ (w.heap.size + 1) _ _ _ _ rfl hr9 Try.underlying33 rfl sizeT) rfl ⟨rfl, hb2.trans (hw9.below (Nat.le_succ _))⟩
theorem awake9_any (w : World) : Calls Try.prog 4 #[] w fun e w' => e = .returned (.bool true) ∧ Below w.heap.size w w' := by
  have KP := Lib.hid (fun W => tPack_yes (w := W) (TxV.mk (q := 1) (isc_nil W) (bbsl_nil W)) (by decide) (by decide) (by decide))
  go_enter Try.func4, Try.ntmps4
  go_wp2_with (go_at_call 7; (with_reducible refine (KP.out _).mono ?_); rintro e w2 ⟨u, rfl, hu, hb2⟩
               obtain ⟨ao, cap, hs, _⟩ := hu.shape
               rw [packT_length] at hs
               obtain rfl : u = .slice ao 2 cap := hs)
  go_ret
  exact ⟨rfl, hb2⟩
end Go.Proofs.Ytmjndpmpeidhaaa
