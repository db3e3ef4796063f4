/- Transactions: their form, head, end, blocks; plain facts. -/
import Derived.Test.YtmjndpmpeidhaaaMemQ
import Derived.Test.YtmjndpmpeidhaaaPackM
namespace Go.Proofs.Ytmjndpmpeidhaaa
open Go.RowKit
set_option linter.unusedVariables false

/-- The number of a block of the greatest disk. -/
def inP9 (x : Int) : Bool := decide (0 ≤ x ∧ x ≤ 767)
/-- What is asked of block number i of a transaction. -/
def newT (N : List Int) (i : Nat) : Bool := (N.take i).all fun x => !(x == N.getD i 0)
def okT9 (N : List Int) (D : List (List Int)) (i : Nat) : Bool := inP9 (N.getD i 0) && (decide ((D.getD i []).length = 256) && newT N i)
def frmTK (N : List Int) (D : List (List Int)) (k : Nat) : Bool := (List.range k).all fun i => okT9 N D i
/-- Is it a transaction? -/
def frmT (N : List Int) (D : List (List Int)) : Bool := decide (N.length ≤ 37) && (decide (D.length = N.length) && frmTK N D N.length)
theorem frmTK_zero (N : List Int) (D : List (List Int)) : frmTK N D 0 = true := rfl
theorem frmTK_succ (N : List Int) (D : List (List Int)) (k : Nat) : frmTK N D (k + 1) = (frmTK N D k && okT9 N D k) := by
  unfold frmTK
  rw [List.range_succ, List.all_append]; simp
theorem frmTK_iff (N : List Int) (D : List (List Int)) (k : Nat) : frmTK N D k = true ↔ ∀ i, i < k → okT9 N D i = true := by
  unfold frmTK
  rw [List.all_eq_true]
  exact ⟨fun h i hi => h i (List.mem_range.2 hi), fun h i hi => h i (List.mem_range.1 hi)⟩
theorem frmT_no {N : List Int} {D : List (List Int)} (i : Nat) (hi : i < N.length) (h : okT9 N D i = false) : frmT N D = false := by
  cases e : frmT N D
  · rfl
  · unfold frmT at e
    rw [Bool.and_eq_true, Bool.and_eq_true] at e
    rw [(frmTK_iff N D _).1 e.2.2 i hi] at h; cases h
theorem frmT_long {N : List Int} {D : List (List Int)} (h : 37 < N.length) : frmT N D = false := by
  unfold frmT; rw [decide_eq_false (by omega)]; rfl
theorem frmT_len {N : List Int} {D : List (List Int)} (h : D.length ≠ N.length) : frmT N D = false := by
  unfold frmT; rw [decide_eq_false h]; cases decide (N.length ≤ 37) <;> rfl
theorem frmT_yes {N : List Int} {D : List (List Int)} (h1 : N.length ≤ 37) (h2 : D.length = N.length) (h3 : frmTK N D N.length = true) : frmT N D = true := by
  unfold frmT; rw [decide_eq_true h1, decide_eq_true h2, h3]; rfl
theorem frmT_of {N : List Int} {D : List (List Int)} (h : frmT N D = true) : N.length ≤ 37 ∧ D.length = N.length ∧ ∀ i, i < N.length → (0 ≤ N.getD i 0 ∧ N.getD i 0 ≤ 767) ∧ (D.getD i []).length = 256 ∧ newT N i = true := by
  unfold frmT at h
  rw [Bool.and_eq_true, Bool.and_eq_true, decide_eq_true_eq, decide_eq_true_eq] at h
  refine ⟨h.1, h.2.1, fun i hi => ?_⟩
  have := (frmTK_iff N D _).1 h.2.2 i hi
  unfold okT9 inP9 at this
  rw [Bool.and_eq_true, Bool.and_eq_true, decide_eq_true_eq, decide_eq_true_eq] at this
  exact ⟨this.1, this.2.1, this.2.2⟩
theorem newT_iff (N : List Int) (i : Nat) (hi : i < N.length) : newT N i = true ↔ ∀ j, j < i → N.getD j 0 ≠ N.getD i 0 := by
  unfold newT
  rw [List.all_eq_true]
  constructor
  · intro h j hj
    have hjl : j < (N.take i).length := by rw [List.length_take]; omega
    have := h _ (List.getElem_mem hjl)
    rw [List.getElem_take] at this
    have e : N.getD j 0 = N[j]'(by omega) := by simp [List.getD_eq_getElem?_getD, show j < N.length by omega]
    rw [e]
    simpa using this
  · intro h x hx
    obtain ⟨j, hj, rfl⟩ := List.getElem_of_mem hx
    rw [List.length_take] at hj
    rw [List.getElem_take]
    have := h j (by omega)
    have e : N.getD j 0 = N[j]'(by omega) := by simp [List.getD_eq_getElem?_getD, show j < N.length by omega]
    rw [e] at this
    simpa using this

/-- The words; the head's bytes, the end's; the blocks. -/
def jrnl : List Int := [106, 114, 110, 108]
def done9 : List Int := [100, 111, 110, 101]
def numL (N : List Int) : List Int := N.flatMap fun n => lowB n 2
def headL (q : Int) (N : List Int) : List Int := jrnl ++ lowB q 4 ++ lowB (N.length : Int) 2 ++ numL N
def endL (q : Int) : List Int := done9 ++ lowB q 4
def packT (q : Int) (N : List Int) (D : List (List Int)) : List (List Int) := sealS (headL q N) :: (D ++ [sealS (endL q)])
theorem numL_length (N : List Int) : (numL N).length = 2 * N.length := by
  unfold numL
  induction N with
  | nil => rfl
  | cons x N ih => rw [List.flatMap_cons, List.length_append, ih, lowB_length, List.length_cons]; omega
theorem numL_snoc (N : List Int) (x : Int) : numL (N ++ [x]) = numL N ++ lowB x 2 := by
  unfold numL
  rw [List.flatMap_append]; simp
theorem numL_take (N : List Int) (k : Nat) (h : k < N.length) : numL (N.take (k + 1)) = numL (N.take k) ++ lowB (N.getD k 0) 2 := by
  rw [List.take_succ_eq_append_getElem h, numL_snoc]
  simp [List.getD_eq_getElem?_getD, h]
theorem headL_length (q : Int) (N : List Int) : (headL q N).length = 10 + 2 * N.length := by
  simp only [headL, List.length_append, lowB_length, numL_length]
  have : jrnl.length = 4 := rfl
  omega
theorem endL_length (q : Int) : (endL q).length = 8 := by
  rw [endL, List.length_append, lowB_length]; rfl
theorem packT_length (q : Int) (N : List Int) (D : List (List Int)) : (packT q N D).length = D.length + 2 := by simp [packT]
theorem byt_jrnl : Byt jrnl := byt_of_mem fun x hx => by simp [jrnl] at hx; omega
theorem byt_done : Byt done9 := byt_of_mem fun x hx => by simp [done9] at hx; omega
theorem byt_numL (N : List Int) : Byt (numL N) := byt_of_mem fun x hx => by
  obtain ⟨n, _, hx⟩ := List.mem_flatMap.1 hx
  exact lowB_mem _ _ x hx
theorem headL_byt (q : Int) (N : List Int) : Byt (headL q N) := byt_append (byt_append (byt_append byt_jrnl (byt_of_mem (lowB_mem _ _))) (byt_of_mem (lowB_mem _ _))) (byt_numL N)
theorem endL_byt (q : Int) : Byt (endL q) := byt_append byt_done (byt_of_mem (lowB_mem _ _))
/-- What stands in the midst of a list. -/
theorem getV_midst (A R : List Int) (n : Int) (k : Nat) (h : 0 ≤ n) (a : Nat) (ha : A.length = a) : getV (A ++ (lowB n k ++ R)) a k = n % 256 ^ k := by
  subst ha
  unfold getV
  rw [List.drop_left, List.take_left' (lowB_length n k), leB_lowB n k h]
theorem head_take (q : Int) (N : List Int) (h : N.length ≤ 37) : (sealS (headL q N)).take 252 = fillS (headL q N) := by
  rw [sealS, List.take_left']
  exact fillS_length _ (by rw [headL_length]; omega)
/-- The head's content says what was laid into it. -/
theorem head_seq (q : Int) (N : List Int) (h0 : 0 ≤ q) (h1 : q < 4294967296) : getV (fillS (headL q N)) 4 4 = q := by
  have e : fillS (headL q N) = jrnl ++ (lowB q 4 ++ (lowB (N.length : Int) 2 ++ (numL N ++ List.replicate (252 - (headL q N).length) 0))) := by
    unfold fillS headL; simp
  rw [e, getV_midst _ _ q 4 h0 4 rfl]
  exact Int.emod_eq_of_lt h0 (by simpa using h1)
theorem head_count (q : Int) (N : List Int) (h : N.length ≤ 37) : getV (fillS (headL q N)) 8 2 = (N.length : Int) := by
  have e : fillS (headL q N) = (jrnl ++ lowB q 4) ++ (lowB (N.length : Int) 2 ++ (numL N ++ List.replicate (252 - (headL q N).length) 0)) := by
    unfold fillS headL; simp
  have hl : (jrnl ++ lowB q 4).length = 8 := by rw [List.length_append, lowB_length]; rfl
  rw [e, getV_midst _ _ _ 2 (by omega) 8 hl]
  exact Int.emod_eq_of_lt (by omega) (by omega)
theorem numL_split (N : List Int) (i : Nat) (hi : i < N.length) : numL N = numL (N.take i) ++ (lowB (N.getD i 0) 2 ++ numL (N.drop (i + 1))) := by
  have e : N = N.take i ++ (N[i] :: N.drop (i + 1)) := by rw [← List.drop_eq_getElem_cons hi, List.take_append_drop]
  have e2 : N.getD i 0 = N[i] := by simp [List.getD_eq_getElem?_getD, hi]
  rw [e2]
  conv => lhs; rw [e]
  unfold numL
  rw [List.flatMap_append, List.flatMap_cons]
theorem head_number (q : Int) (N : List Int) (i : Nat) (hi : i < N.length) (hn : 0 ≤ N.getD i 0 ∧ N.getD i 0 ≤ 767) : getV (fillS (headL q N)) (10 + 2 * i) 2 = N.getD i 0 := by
  have e : fillS (headL q N) = (jrnl ++ lowB q 4 ++ lowB (N.length : Int) 2 ++ numL (N.take i)) ++ (lowB (N.getD i 0) 2 ++ (numL (N.drop (i + 1)) ++ List.replicate (252 - (headL q N).length) 0)) := by
    have e1 : headL q N = jrnl ++ lowB q 4 ++ lowB (N.length : Int) 2 ++ (numL (N.take i) ++ (lowB (N.getD i 0) 2 ++ numL (N.drop (i + 1)))) := by
      rw [← numL_split N i hi]; rfl
    unfold fillS
    generalize List.replicate (252 - (headL q N).length) (0 : Int) = Z
    rw [e1]
    simp only [List.append_assoc]
  have hl : (jrnl ++ lowB q 4 ++ lowB (N.length : Int) 2 ++ numL (N.take i)).length = 10 + 2 * i := by
    simp only [List.length_append, lowB_length, numL_length, List.length_take]
    have : jrnl.length = 4 := rfl
    omega
  rw [e, getV_midst _ _ _ 2 hn.1 _ hl]
  exact Int.emod_eq_of_lt hn.1 (by omega)
theorem head_word (q : Int) (N : List Int) : (fillS (headL q N)).take 4 = jrnl := by
  have e : fillS (headL q N) = jrnl ++ (lowB q 4 ++ (lowB (N.length : Int) 2 ++ (numL N ++ List.replicate (252 - (headL q N).length) 0))) := by
    unfold fillS headL; simp
  rw [e, List.take_left' (show jrnl.length = 4 from rfl)]
end Go.Proofs.Ytmjndpmpeidhaaa
