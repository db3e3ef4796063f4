/- Layer 12's reference: contract of Run. -/
import Derived.Deep.RegionHeldLaw
import Derived.Deep.RegionHeld3
import Derived.Deep.AppendLies
import Derived.Great.BuildSlice
import Derived.Deep.RegionLaw
import Derived.Test.YtkbeencjklgcnaaGreatMg1
import Derived.Test.YtkbeencjklgcnaaGreatMg2
import Derived.Test.YtkbeencjklgcnaaGreatMg3
import Derived.Test.YtkbeencjklgcnaaGreatMg7
namespace Go.Proofs.YtkbeencjklgcnaaGreat
set_option maxRecDepth 100000
open Go.RowKit
set_option linter.unusedVariables false

/-- The first of the first n consecutive blocks that are free, of L. -/
def findR (O : List (Int × Int)) (L : Nat) (n : Int) : Int :=
  match (List.range L).find? (fun i => decide ((runF O (i + 1) : Int) = n)) with
  | some i => (i : Int) - n + 1
  | none => -1
theorem findR_hit {O : List (Int × Int)} {L k : Nat} {n : Int} (hk : k < L) (h : (runF O (k + 1) : Int) = n) (hn : ∀ j, j < k → (runF O (j + 1) : Int) ≠ n) : findR O L n = (k : Int) - n + 1 := by
  have e : (List.range L).find? (fun i => decide ((runF O (i + 1) : Int) = n)) = some k := by
    rw [List.find?_eq_some_iff_append]
    refine ⟨decide_eq_true h, List.range k, (List.range (L - k - 1)).map (k + 1 + ·), ?_, fun a ha => by simp [hn a (List.mem_range.1 ha)]⟩
    have e1 : L = k + (1 + (L - k - 1)) := by omega
    conv => lhs; rw [e1, List.range_add, List.range_add]
    simp [Nat.add_assoc]
  unfold findR
  rw [e]
theorem findR_none {O : List (Int × Int)} {L : Nat} {n : Int} (hn : ∀ j, j < L → (runF O (j + 1) : Int) ≠ n) : findR O L n = -1 := by
  have e : (List.range L).find? (fun i => decide ((runF O (i + 1) : Int) = n)) = none := by
    rw [List.find?_eq_none]
    intro x hx
    simp [hn x (List.mem_range.1 hx)]
  unfold findR
  rw [e]
section
variable {w : World} {M : Nat → Prop} {p : Value} {n : Int} {O : List (Int × Int)}
theorem rSpRun_no (h : RSp w M p n O) {b m : Int} (hb : b ≤ 9223372036854775807) (hf : frmB b = false ∨ m < 1) : Calls Tryz.prog 32 #[p, .int .i64 b, .int .i64 m] w fun e w' => e = .returned (.tuple #[.int .i64 0, .int .i64 1]) ∧ w = w' := by
  have KF := Lib.hid (rFormed_any b hb w)
  obtain ⟨bp, v, rfl, _⟩ := h
  cases hfb : frmB b
  · rw [hfb] at KF
    clear hf hfb
    go_enter Tryz.func32, Tryz.ntmps32
    go_wp2_with (go_at_call 42; (with_reducible refine KF.out.mono ?_); rintro e w' ⟨rfl, rfl⟩)
    go_ret2
    exact ⟨rfl, rfl⟩
  · rw [hfb] at KF hf
    have hm : m < 1 := by simpa using hf
    clear hf hfb
    go_enter Tryz.func32, Tryz.ntmps32
    go_wp2_with (go_at_call 42; (with_reducible refine KF.out.mono ?_); rintro e w' ⟨rfl, rfl⟩)
    go_ret2
    exact ⟨rfl, rfl⟩
theorem rSpRun_yes (h : RSp w M p n O) {L : Nat} (hf : frmB (L : Int) = true) (hL : L ≤ O.length) (hO : O.length ≤ 100000) (h0 : 0 < L) {q : Int} (hq : 1 ≤ q ∧ q ≤ 9223372036854775807) : Calls Tryz.prog 32 #[p, .int .i64 L, .int .i64 q] w fun e w' => e = .returned (.tuple #[.int .i64 (findR O L q), .int .i64 0]) ∧ w = w' := by
  have KF := Lib.hid (rFormed_any (L : Int) (by omega) w)
  rw [hf] at KF
  obtain ⟨bp, g, off, cap, rfl, c0, c1, hc⟩ := h.cells (by omega)
  have HC := Lib.hid hc
  have HLE := Lib.hid (runF_le O)
  obtain ⟨m, hm⟩ : ∃ m, m = O.length := ⟨_, rfl⟩
  have HL := Lib.hid hL
  have hq1 : ¬ q < 1 := by omega
  rw [← hm] at c1 hL hO
  clear hm hc h hf
  go_enter Tryz.func32, Tryz.ntmps32
  go_wp2_with (go_at_call 42; (with_reducible refine KF.out.mono ?_); rintro e w' ⟨rfl, rfl⟩)
  go_loopw [8, 18] (fun c i wr => wr = w ∧ ∃ k : Nat, i = .int .i64 k ∧ c = .int .i64 (runF O k) ∧ k ≤ L ∧ Hid (∀ j, j < k → (runF O (j + 1) : Int) ≠ q)) (fun c i _ => L - (intOf i).toNat)
  case atStart => exact ⟨rfl, 0, rfl, rfl, Nat.zero_le _, Lib.hid (fun j hj => absurd hj (Nat.not_lt_zero _))⟩
  case round =>
    obtain ⟨rfl, k, rfl, rfl, hkL, HK⟩ := hrel
    by_cases hlt : k < L
    · have ek : (k : Int) < (L : Int) := by omega
      obtain ⟨d0, d1⟩ := HC.out k (by have := HL.out; omega)
      have hck := HLE.out k
      have HS : Hid (runF O (k + 1) = if freeJ O k = true then runF O k + 1 else 0) := Lib.hid rfl
      obtain ⟨c, hcc⟩ : ∃ c, c = runF O k := ⟨_, rfl⟩
      rw [← hcc] at HS hck ⊢
      obtain ⟨x, hx⟩ : ∃ x, x = (O.getD k (0, 0)).1 := ⟨_, rfl⟩
      have HF : Hid (freeJ O k = decide (x = 0)) := Lib.hid (by unfold freeJ; rw [hx])
      rw [← hx] at d0
      rw [HF.out] at HS
      clear hcc hx HF
      have HN : Hid ((runF O (k + 1) : Int) ≠ q → ∀ j, j < k + 1 → (runF O (j + 1) : Int) ≠ q) := Lib.hid (fun h1 j hj => by
        by_cases e : j < k
        · exact HK.out j e
        · obtain rfl : j = k := by omega
          exact h1)
      by_cases hfr : x = 0
      · subst hfr
        have HS2 : Hid (runF O (k + 1) = c + 1) := Lib.hid (by rw [HS.out]; simp)
        clear HS
        by_cases heq : (c : Int) + 1 = q
        · subst heq
          have HR : Hid (findR O L ((c : Int) + 1) = (k : Int) - ((c : Int) + 1) + 1) := Lib.hid (findR_hit hlt (by rw [HS2.out]; simp) HK.out)
          go_wp2
          go_ret2
          exact ⟨by rw [HR.out]; go_num, rfl⟩
        · have e1 : ((c : Int) + 1 == q) = false := by simp [heq]
          have HK2 := Lib.hid (HN.out (by rw [HS2.out]; simpa using heq))
          go_wp2
          go_roundw
          case rel => exact ⟨trivial, k + 1, by go_num, by rw [HS2.out]; go_num, by omega, HK2⟩
          case measure => simp [intOf]; omega
      · have e1 : (x != 0) = true := by simp [hfr]
        have HS2 : Hid (runF O (k + 1) = 0) := Lib.hid (by rw [HS.out]; simp [hfr])
        clear HS
        have e2 : (0 == q) = false := by simp; omega
        have e3 : ¬ (0 : Int) = q := by omega
        have HK2 := Lib.hid (HN.out (by rw [HS2.out]; simpa using e3))
        go_wp2
        go_roundw
        case rel => exact ⟨trivial, k + 1, by go_num, by rw [HS2.out]; rfl, by omega, HK2⟩
        case measure => simp [intOf]; omega
    · obtain rfl : k = L := by omega
      have HR := Lib.hid (findR_none HK.out)
      go_wp2
      go_ret2
      exact ⟨by rw [HR.out]; rfl, rfl⟩
end
end Go.Proofs.YtkbeencjklgcnaaGreat

/- bytes.Equal; strings that are the same. -/
namespace Go.Proofs.YtkbeencjklgcnaaGreat
set_option maxRecDepth 100000
open Go.RowKit
set_option linter.unusedVariables false

theorem strOf_inj {l m : List Int} (hl : Byt l) (hm : Byt m) (h : (strOfNums l).data.toList = (strOfNums m).data.toList) : l = m := by
  have e : l.map (fun n => UInt8.ofNat n.toNat) = m.map (fun n => UInt8.ofNat n.toNat) := by
    rw [← strOfNums_data, ← strOfNums_data, h]
  have hlen : l.length = m.length := by simpa using congrArg List.length e
  apply List.ext_getElem hlen
  intro i h1 h2
  have h3 := congrArg (fun z => z[i]?) e
  simp [h1, h2] at h3
  have a := byt_mem hl l[i] (List.getElem_mem h1)
  have b := byt_mem hm m[i] (List.getElem_mem h2)
  have h4 := congrArg UInt8.toNat h3
  simp at h4
  omega
theorem bEqual_of {w : World} {u v : Value} {l m : List Int} (hu : BSl w u l) (hv : BSl w v m) : Calls Tryz.prog 71 #[u, v] w fun e w' => e = .returned (.bool (decide (l = m))) ∧ w = w' := by
  have c1 := conv_bsl hu
  have c2 := conv_bsl hv
  have b1 := hu.1
  have b2 := hv.1
  have hd : ((strOfNums l).toList == (strOfNums m).toList) = decide (l = m) := by
    by_cases e : l = m
    · rw [decide_eq_true e, e]; exact beq_self_eq_true _
    · rw [decide_eq_false e, ByteArray.toList_eq, ByteArray.toList_eq]
      rw [beq_eq_false_iff_ne]
      exact fun h => e (strOf_inj b1 b2 h)
  have HD := Lib.hid hd
  clear hu hv b1 b2 hd
  go_enter Tryz.func71, Tryz.ntmps71
  go_wp2
  go_ret
  exact ⟨by rw [← HD.out]; rfl, rfl⟩
end Go.Proofs.YtkbeencjklgcnaaGreat

/- Transactions: their form, head, end, blocks; plain facts. -/
namespace Go.Proofs.YtkbeencjklgcnaaGreat
set_option maxRecDepth 100000
open Go.RowKit
set_option linter.unusedVariables false

/-- The number of a block of the greatest disk. -/
def inP9 (x : Int) : Bool := decide (0 ≤ x ∧ x ≤ 767)
/-- What is asked of block number i of a transaction. -/
def newT (N : List Int) (i : Nat) : Bool := (N.take i).all fun x => !(x == N.getD i 0)
def okT9 (N : List Int) (D : List (List Int)) (i : Nat) : Bool := inP9 (N.getD i 0) && (decide ((D.getD i []).length = 256) && newT N i)
def frmTK (N : List Int) (D : List (List Int)) (k : Nat) : Bool := (List.range k).all fun i => okT9 N D i
/-- Is it a transaction? -/
def frmT (N : List Int) (D : List (List Int)) : Bool := decide (N.length ≤ 37) && (decide (D.length = N.length) && frmTK N D N.length)
theorem frmTK_zero (N : List Int) (D : List (List Int)) : frmTK N D 0 = true := rfl
theorem frmTK_succ (N : List Int) (D : List (List Int)) (k : Nat) : frmTK N D (k + 1) = (frmTK N D k && okT9 N D k) := by
  unfold frmTK
  rw [List.range_succ, List.all_append]; simp
theorem frmTK_iff (N : List Int) (D : List (List Int)) (k : Nat) : frmTK N D k = true ↔ ∀ i, i < k → okT9 N D i = true := by
  unfold frmTK
  rw [List.all_eq_true]
  exact ⟨fun h i hi => h i (List.mem_range.2 hi), fun h i hi => h i (List.mem_range.1 hi)⟩
theorem frmT_no {N : List Int} {D : List (List Int)} (i : Nat) (hi : i < N.length) (h : okT9 N D i = false) : frmT N D = false := by
  cases e : frmT N D
  · rfl
  · unfold frmT at e
    rw [Bool.and_eq_true, Bool.and_eq_true] at e
    rw [(frmTK_iff N D _).1 e.2.2 i hi] at h; cases h
theorem frmT_long {N : List Int} {D : List (List Int)} (h : 37 < N.length) : frmT N D = false := by
  unfold frmT; rw [decide_eq_false (by omega)]; rfl
theorem frmT_len {N : List Int} {D : List (List Int)} (h : D.length ≠ N.length) : frmT N D = false := by
  unfold frmT; rw [decide_eq_false h]; cases decide (N.length ≤ 37) <;> rfl
theorem frmT_yes {N : List Int} {D : List (List Int)} (h1 : N.length ≤ 37) (h2 : D.length = N.length) (h3 : frmTK N D N.length = true) : frmT N D = true := by
  unfold frmT; rw [decide_eq_true h1, decide_eq_true h2, h3]; rfl
theorem frmT_of {N : List Int} {D : List (List Int)} (h : frmT N D = true) : N.length ≤ 37 ∧ D.length = N.length ∧ ∀ i, i < N.length → (0 ≤ N.getD i 0 ∧ N.getD i 0 ≤ 767) ∧ (D.getD i []).length = 256 ∧ newT N i = true := by
  unfold frmT at h
  rw [Bool.and_eq_true, Bool.and_eq_true, decide_eq_true_eq, decide_eq_true_eq] at h
  refine ⟨h.1, h.2.1, fun i hi => ?_⟩
  have := (frmTK_iff N D _).1 h.2.2 i hi
  unfold okT9 inP9 at this
  rw [Bool.and_eq_true, Bool.and_eq_true, decide_eq_true_eq, decide_eq_true_eq] at this
  exact ⟨this.1, this.2.1, this.2.2⟩
theorem newT_iff (N : List Int) (i : Nat) (hi : i < N.length) : newT N i = true ↔ ∀ j, j < i → N.getD j 0 ≠ N.getD i 0 := by
  unfold newT
  rw [List.all_eq_true]
  constructor
  · intro h j hj
    have hjl : j < (N.take i).length := by rw [List.length_take]; omega
    have := h _ (List.getElem_mem hjl)
    rw [List.getElem_take] at this
    have e : N.getD j 0 = N[j]'(by omega) := by simp [List.getD_eq_getElem?_getD, show j < N.length by omega]
    rw [e]
    simpa using this
  · intro h x hx
    obtain ⟨j, hj, rfl⟩ := List.getElem_of_mem hx
    rw [List.length_take] at hj
    rw [List.getElem_take]
    have := h j (by omega)
    have e : N.getD j 0 = N[j]'(by omega) := by simp [List.getD_eq_getElem?_getD, show j < N.length by omega]
    rw [e] at this
    simpa using this

/-- The words; the head's bytes, the end's; the blocks. -/
def jrnl : List Int := [106, 114, 110, 108]
def done9 : List Int := [100, 111, 110, 101]
def numL (N : List Int) : List Int := N.flatMap fun n => lowB n 2
def headL (q : Int) (N : List Int) : List Int := jrnl ++ lowB q 4 ++ lowB (N.length : Int) 2 ++ numL N
def endL (q : Int) : List Int := done9 ++ lowB q 4
def packT (q : Int) (N : List Int) (D : List (List Int)) : List (List Int) := sealS (headL q N) :: (D ++ [sealS (endL q)])
theorem numL_length (N : List Int) : (numL N).length = 2 * N.length := by
  unfold numL
  induction N with
  | nil => rfl
  | cons x N ih => rw [List.flatMap_cons, List.length_append, ih, lowB_length, List.length_cons]; omega
theorem numL_snoc (N : List Int) (x : Int) : numL (N ++ [x]) = numL N ++ lowB x 2 := by
  unfold numL
  rw [List.flatMap_append]; simp
theorem numL_take (N : List Int) (k : Nat) (h : k < N.length) : numL (N.take (k + 1)) = numL (N.take k) ++ lowB (N.getD k 0) 2 := by
  rw [List.take_succ_eq_append_getElem h, numL_snoc]
  simp [List.getD_eq_getElem?_getD, h]
theorem headL_length (q : Int) (N : List Int) : (headL q N).length = 10 + 2 * N.length := by
  simp only [headL, List.length_append, lowB_length, numL_length]
  have : jrnl.length = 4 := rfl
  omega
theorem endL_length (q : Int) : (endL q).length = 8 := by
  rw [endL, List.length_append, lowB_length]; rfl
theorem packT_length (q : Int) (N : List Int) (D : List (List Int)) : (packT q N D).length = D.length + 2 := by simp [packT]
theorem byt_jrnl : Byt jrnl := byt_of_mem fun x hx => by simp [jrnl] at hx; omega
theorem byt_done : Byt done9 := byt_of_mem fun x hx => by simp [done9] at hx; omega
theorem byt_numL (N : List Int) : Byt (numL N) := byt_of_mem fun x hx => by
  obtain ⟨n, _, hx⟩ := List.mem_flatMap.1 hx
  exact lowB_mem _ _ x hx
theorem headL_byt (q : Int) (N : List Int) : Byt (headL q N) := byt_append (byt_append (byt_append byt_jrnl (byt_of_mem (lowB_mem _ _))) (byt_of_mem (lowB_mem _ _))) (byt_numL N)
theorem endL_byt (q : Int) : Byt (endL q) := byt_append byt_done (byt_of_mem (lowB_mem _ _))
/-- What stands in the midst of a list. -/
theorem getV_midst (A R : List Int) (n : Int) (k : Nat) (h : 0 ≤ n) (a : Nat) (ha : A.length = a) : getV (A ++ (lowB n k ++ R)) a k = n % 256 ^ k := by
  subst ha
  unfold getV
  rw [List.drop_left, List.take_left' (lowB_length n k), leB_lowB n k h]
theorem head_take (q : Int) (N : List Int) (h : N.length ≤ 37) : (sealS (headL q N)).take 252 = fillS (headL q N) := by
  rw [sealS, List.take_left']
  exact fillS_length _ (by rw [headL_length]; omega)
/-- The head's content says what was laid into it. -/
theorem head_seq (q : Int) (N : List Int) (h0 : 0 ≤ q) (h1 : q < 4294967296) : getV (fillS (headL q N)) 4 4 = q := by
  have e : fillS (headL q N) = jrnl ++ (lowB q 4 ++ (lowB (N.length : Int) 2 ++ (numL N ++ List.replicate (252 - (headL q N).length) 0))) := by
    unfold fillS headL; simp
  rw [e, getV_midst _ _ q 4 h0 4 rfl]
  exact Int.emod_eq_of_lt h0 (by simpa using h1)
theorem head_count (q : Int) (N : List Int) (h : N.length ≤ 37) : getV (fillS (headL q N)) 8 2 = (N.length : Int) := by
  have e : fillS (headL q N) = (jrnl ++ lowB q 4) ++ (lowB (N.length : Int) 2 ++ (numL N ++ List.replicate (252 - (headL q N).length) 0)) := by
    unfold fillS headL; simp
  have hl : (jrnl ++ lowB q 4).length = 8 := by rw [List.length_append, lowB_length]; rfl
  rw [e, getV_midst _ _ _ 2 (by omega) 8 hl]
  exact Int.emod_eq_of_lt (by omega) (by omega)
theorem numL_split (N : List Int) (i : Nat) (hi : i < N.length) : numL N = numL (N.take i) ++ (lowB (N.getD i 0) 2 ++ numL (N.drop (i + 1))) := by
  have e : N = N.take i ++ (N[i] :: N.drop (i + 1)) := by rw [← List.drop_eq_getElem_cons hi, List.take_append_drop]
  have e2 : N.getD i 0 = N[i] := by simp [List.getD_eq_getElem?_getD, hi]
  rw [e2]
  conv => lhs; rw [e]
  unfold numL
  rw [List.flatMap_append, List.flatMap_cons]
theorem head_number (q : Int) (N : List Int) (i : Nat) (hi : i < N.length) (hn : 0 ≤ N.getD i 0 ∧ N.getD i 0 ≤ 767) : getV (fillS (headL q N)) (10 + 2 * i) 2 = N.getD i 0 := by
  have e : fillS (headL q N) = (jrnl ++ lowB q 4 ++ lowB (N.length : Int) 2 ++ numL (N.take i)) ++ (lowB (N.getD i 0) 2 ++ (numL (N.drop (i + 1)) ++ List.replicate (252 - (headL q N).length) 0)) := by
    have e1 : headL q N = jrnl ++ lowB q 4 ++ lowB (N.length : Int) 2 ++ (numL (N.take i) ++ (lowB (N.getD i 0) 2 ++ numL (N.drop (i + 1)))) := by
      rw [← numL_split N i hi]; rfl
    unfold fillS
    generalize List.replicate (252 - (headL q N).length) (0 : Int) = Z
    rw [e1]
    simp only [List.append_assoc]
  have hl : (jrnl ++ lowB q 4 ++ lowB (N.length : Int) 2 ++ numL (N.take i)).length = 10 + 2 * i := by
    simp only [List.length_append, lowB_length, numL_length, List.length_take]
    have : jrnl.length = 4 := rfl
    omega
  rw [e, getV_midst _ _ _ 2 hn.1 _ hl]
  exact Int.emod_eq_of_lt hn.1 (by omega)
theorem head_word (q : Int) (N : List Int) : (fillS (headL q N)).take 4 = jrnl := by
  have e : fillS (headL q N) = jrnl ++ (lowB q 4 ++ (lowB (N.length : Int) 2 ++ (numL N ++ List.replicate (252 - (headL q N).length) 0))) := by
    unfold fillS headL; simp
  rw [e, List.take_left' (show jrnl.length = 4 from rfl)]
end Go.Proofs.YtkbeencjklgcnaaGreat

/- Rows of elements of one size, laid flat; a stretch of cells stored into a row that is known whole. -/
namespace Go.Proofs.YtkbeencjklgcnaaGreat
set_option maxRecDepth 100000
open Go.RowKit
set_option linter.unusedVariables false

/-- The cells of a block. -/
def cB (b : List Int) : List Value := b.map (Value.int .u8)
theorem cB_length (b : List Int) : (cB b).length = b.length := by simp [cB]
theorem cB_one (b : List Int) : ∀ v ∈ cB b, v.oneCell' = true := fun v hv => by obtain ⟨x, _, rfl⟩ := List.mem_map.1 hv; rfl
/-- The cells of an unflushed Write. -/
def cU (x : Nat × List Int) : List Value := .int .i64 x.1 :: cB x.2
theorem cU_length (x : Nat × List Int) : (cU x).length = x.2.length + 1 := by simp [cU, cB_length]
theorem cU_one (x : Nat × List Int) : ∀ v ∈ cU x, v.oneCell' = true := fun v hv => by
  rcases List.mem_cons.1 hv with rfl | h
  · rfl
  · exact cB_one _ v h
/-- A block of 256 bytes. -/
def Blk (b : List Int) : Prop := b.length = 256 ∧ Byt b
theorem flatB_len {L : List (List Int)} (h : ∀ b ∈ L, Blk b) : ∀ x ∈ L, (cB x).length = 256 := fun x hx => by rw [cB_length, (h x hx).1]
theorem flatU_len {L : List (Nat × List Int)} (h : ∀ x ∈ L, Blk x.2) : ∀ x ∈ L, (cU x).length = 257 := fun x hx => by rw [cU_length, (h x hx).1]

/-- The cells of a block of zero bytes. -/
def zB : List Value := List.replicate 256 (.int .u8 0)
theorem zB_length : zB.length = 256 := List.length_replicate
theorem infoB : (Tryz.prog.info? 108).map (fun i => (i.zero, i.size, i.bytes)) = some (some (.agg zB.toArray), 256, 256) := by kernel_rfl
theorem infoW : (Tryz.prog.info? 112).map (fun i => (i.zero, i.size, i.bytes)) = some (some (.agg (Value.int .i64 0 :: zB).toArray), 257, 264) := by kernel_rfl

/-- A variable of type block. -/
theorem wpList_allocB (w : World) {ops : Array Oper} {rest : List Oper} {o : Oper} {a : Act} {Q : Exit → Act → World → Prop} (hg : o.guard = none) (hop : o.op = Op.alloc 108)
    (hK : wpList Tryz.prog ops Q rest (a.put o.dst (.pointer (some ⟨w.heap.size, 0, none⟩))) (w.alloc (.cells zB.toArray 108))) : wpList Tryz.prog ops Q (o :: rest) a w := by
  refine wpList_plain hg fun K hK' => ?_
  have hz := (zero_of_info (v := .agg zB.toArray) (n := 256) (t := 108) (P := Tryz.prog) (by
    obtain ⟨i, h2, h3, h4, h5⟩ := info_parts infoB
    simp [h2, h3, h4])).1 w
  unfold Oper.wp execOp
  simp only [hop, Instr.alloc, newVar, newRow, Sem.run_bind, hz, Result.andThen_ok, Value.cells]
  exact hK' _ _ hK
end Go.Proofs.YtkbeencjklgcnaaGreat

/- Package disk: blockOf. -/
namespace Go.Proofs.YtkbeencjklgcnaaGreat
set_option maxRecDepth 100000
open Go.RowKit
set_option linter.unusedVariables false

theorem sizeB : (Tryz.prog.info? 108).map (·.size) = some 256 := by kernel_rfl
theorem built_zero : Tryz.prog.built 108 [] = some zB.toArray := by kernel_rfl

/-- block{}. -/
theorem wpList_buildB (w : World) {ops : Array Oper} {rest : List Oper} {o : Oper} {a : Act} {Q : Exit → Act → World → Prop} (hg : o.guard = none) (hop : o.op = Op.build 108 #[])
    (hK : wpList Tryz.prog ops Q rest (a.put o.dst (.agg zB.toArray)) w) : wpList Tryz.prog ops Q (o :: rest) a w := by
  refine wpList_plain hg fun K hK' => ?_
  have hb : Tryz.prog.built 108 ((#[] : Array (Nat × Operand)).map fun (i, x) => (i, a.eval x)).toList = some zB.toArray := by simpa using built_zero
  exact wp_build 108 #[] hop (by rw [hb]; rfl) (by rw [hb]; exact hK' _ _ hK)
/-- A whole block into a variable of type block, and out of it. -/
theorem wpList_storeB (w : World) {ops : Array Oper} {rest : List Oper} {o : Oper} {a : Act} {Q : Exit → Act → World → Prop} (hg : o.guard = none) (x y : Operand) (hop : o.op = Op.store 108 x y)
    (g : Nat) (t : TypeId) (old cells : List Value) (hx : a.eval x = .pointer (some ⟨g, 0, none⟩)) (hy : a.eval y = .agg cells.toArray) (hh : w.heap[g]? = some (.cells old.toArray t (0, 0))) (ho : old.length = 256) (hc : cells.length = 256) (h1 : ∀ v ∈ cells, v.oneCell' = true)
    (hK : wpList Tryz.prog ops Q rest (a.put o.dst undef) (w.setRow g cells.toArray)) : wpList Tryz.prog ops Q (o :: rest) a w :=
  wpList_store_row hg 108 x y hop g cells.toArray hx hy t old.toArray hh (by rw [sizeB]; simp [hc]) (by simp [ho, hc]) (all_oneCell_toArray h1) hK
theorem wpList_loadB (w : World) {ops : Array Oper} {rest : List Oper} {o : Oper} {a : Act} {Q : Exit → Act → World → Prop} (hg : o.guard = none) (x : Operand) (hop : o.op = Op.load 108 x)
    (g off : Nat) (cells : List Value) (hx : a.eval x = .pointer (some ⟨g, off, none⟩)) (hr : w.rangeAt g off cells) (hc : cells.length = 256)
    (hK : wpList Tryz.prog ops Q rest (a.put o.dst (.agg cells.toArray)) w) : wpList Tryz.prog ops Q (o :: rest) a w :=
  wpList_load_mid hg 108 x hop g off hx cells _ hr Tryz.underlying108 rfl (by rw [sizeB, hc]) hK

set_option maxRecDepth 100000 in
theorem dBlockOf_any {w : World} {v : Value} {l : List Int} (hv : BSl w v l) (hl : l.length = 256) :
    Calls Tryz.prog 61 #[v] w fun e w' => e = .returned (.agg (cB l).toArray) ∧ Below w.heap.size w w' := by
  obtain ⟨ao, cap, rfl, hcap⟩ := hv.shape
  obtain ⟨M, hM⟩ : ∃ M, M = l.length := ⟨_, rfl⟩
  have hlen : Tryz.prog.arrayLen 108 = 256 := by kernel_rfl
  have harr : Tryz.prog.underlying 108 = some (.array 256 5) := Tryz.underlying108
  have HZ := Lib.hid zB_length
  have HL := Lib.hid hl
  have hone : ∀ v ∈ zB, v.oneCell' = true := fun v hv => by rw [List.eq_of_mem_replicate hv]; rfl
  rw [← hM] at hv ⊢
  have hsrc := src_cells hv (fun _ _ => rfl) (w1 := w) l.length
  rw [List.take_length] at hsrc
  have HM : Hid (M = 256) := by rw [hM]; exact HL
  clear hl hcap hM
  go_enter Tryz.func61, Tryz.ntmps61
  go_wp2_with (first
    | with_reducible refine wpList_allocB _ rfl rfl ?_
    | with_reducible refine wpList_buildB _ rfl rfl ?_
    | (refine wpList_storeB _ rfl _ _ (by rfl) _ 108 zB zB (by rfl) (by rfl) (heap_alloc_last _ _) HZ.out HZ.out hone ?_
       rw [World.setRow_alloc_new])
    | (refine wpList_copy_wrote (by rfl) _ _ _ _ (by rfl) 5 Tryz.underlying62 (by kernel_rfl) _ _ _ _ _ _ (by rfl) (by rfl) (w.heap.size + 1) 0 zB 108 ?_ (cB l) 256 (by rw [cB_length]; exact HL.out) ?_ ?_ ?_ (cB_one l) ?_))
  · rw [show w.heap.size + 1 = (w.alloc (.cells zB.toArray 108)).heap.size by simp]; exact heap_alloc_last _ _
  · rw [HM.out]; rfl
  · intro hpos
    obtain ⟨ad, rfl, hc⟩ := hsrc hpos
    refine ⟨ad, rfl, fun j v hj => ?_⟩
    have hcj := hc j v hj
    have hlt := World.block_lt_of_cell? w _ hcj
    rw [World.cell?_alloc_lt _ _ _ (Nat.lt_of_lt_of_le hlt (by simp)), World.cell?_alloc_lt _ _ _ hlt, hcj]
  · rw [cB_length, HL.out, HZ.out]; exact Nat.le_refl _
  intro w' hrow hwr
  rw [splice_whole _ _ (by rw [cB_length, HL.out, HZ.out])] at hrow
  have hrow0 : w'.heap[w.heap.size]? = some (.cells zB.toArray 108 (0, 0)) := by
    rw [hwr.2.2.2.2 _ (by omega), heap_alloc_old _ _ (by simp)]; exact heap_alloc_last _ _
  go_wp2_with (first
    | (refine wpList_loadB _ rfl _ (by rfl) _ 0 (cB l) (by rfl) (range_row hrow.out (by rw [List.drop_zero, List.take_length])) (by rw [cB_length]; exact HL.out) ?_)
    | (refine wpList_storeB _ rfl _ _ (by rfl) _ 108 zB (cB l) (by rfl) (by rfl) hrow0 HZ.out (by rw [cB_length]; exact HL.out) (cB_one l) ?_))
  have hrow2 := setRow_heap w' w.heap.size _ (cB l).toArray 108 _ hrow0
  refine bodyPost_ret (v := .agg (cB l).toArray) ?_ rfl ⟨rfl, ?_⟩
  · exact results_cell_row rfl _ _ w.heap.size 108 (cB l).toArray (0, 0) _ (by rfl) hrow2 harr rfl (by rw [sizeB]; simp [cB_length, HL.out])
  · have b1 : Below w.heap.size w ((w.alloc (.cells zB.toArray 108)).alloc (.cells zB.toArray 108)) := ((Below.refl _ _).alloc (Nat.le_refl _) _).alloc (by simp) _
    have b2 : Below w.heap.size _ w' := hwr.below (by omega)
    exact (b1.trans b2).trans ((Wrote.setRow w' w.heap.size _).below (Nat.le_refl _))
end Go.Proofs.YtkbeencjklgcnaaGreat

/- Package disk: what a disk is in memory; New, Blocks, Unflushed, has, fits, powered. -/
namespace Go.Proofs.YtkbeencjklgcnaaGreat
set_option maxRecDepth 100000
open Go.RowKit
set_option linter.unusedVariables false

/-- A disk at bp: its blocks F (flushed) at bf, V (visible) at bv, its unflushed Writes U in u. -/
structure DskAt (w : World) (B bp bf bv : Nat) (u : Value) (F V : List (List Int)) (U : List (Nat × List Int)) (fu : Bool) (le : Int) (dn : Bool) : Prop where
  bB : B ≤ bp ∧ B ≤ bf ∧ B ≤ bv
  ne : bp ≠ bf ∧ bp ≠ bv ∧ bf ≠ bv
  hp : w.heap[bp]? = some (.cells #[.slice (some ⟨bf, 0, none⟩) F.length F.length, .slice (some ⟨bv, 0, none⟩) V.length V.length, u, .bool fu, .int .i64 le, .bool dn] 87 (0, 0))
  hf : w.heap[bf]? = some (.cells (F.flatMap cB).toArray 108 (0, 0))
  hv : w.heap[bv]? = some (.cells (V.flatMap cB).toArray 108 (0, 0))
  hu : w.ownsRow B 112 257 u U.length (U.flatMap cU)
  une : u.ownBlock ≠ some bp ∧ u.ownBlock ≠ some bf ∧ u.ownBlock ≠ some bv
  okF : ∀ b ∈ F, Blk b
  okV : ∀ b ∈ V, Blk b
  okU : ∀ x ∈ U, x.1 < V.length ∧ Blk x.2
  len : F.length = V.length
  max : V.length ≤ 2000

/-- A disk with power and no fuse. -/
def Dsk (w : World) (B : Nat) (p : Value) (F V : List (List Int)) (U : List (Nat × List Int)) : Prop :=
  ∃ bp bf bv u, p = .pointer (some ⟨bp, 0, none⟩) ∧ DskAt w B bp bf bv u F V U false 0 false

theorem DskAt.below {w w' : World} {B bp bf bv : Nat} {u : Value} {F V : List (List Int)} {U : List (Nat × List Int)} {fu dn : Bool} {le : Int} (h : DskAt w B bp bf bv u F V U fu le dn) (hb : Below w.heap.size w w') : DskAt w' B bp bf bv u F V U fu le dn := by
  have key : ∀ {g : Nat} {o : Obj}, w.heap[g]? = some o → w'.heap[g]? = some o := fun hg => by
    rw [hb.block _ (Array.getElem?_eq_some_iff.1 hg).1]; exact hg
  refine { h with hp := key h.hp, hf := key h.hf, hv := key h.hv, hu := ⟨h.hu.1, ?_⟩ }
  rcases h.hu.2 with h | ⟨g, cap, cur, hv, hg, hh, r⟩
  · exact .inl h
  · exact .inr ⟨g, cap, cur, hv, hg, key hh, r⟩
theorem Dsk.below {w w' : World} {B : Nat} {p : Value} {F V : List (List Int)} {U : List (Nat × List Int)} (h : Dsk w B p F V U) (hb : Below w.heap.size w w') : Dsk w' B p F V U := by
  obtain ⟨bp, bf, bv, u, hp, h⟩ := h
  exact ⟨bp, bf, bv, u, hp, h.below hb⟩

section
variable {w : World} {B bp bf bv : Nat} {u : Value} {F V : List (List Int)} {U : List (Nat × List Int)} {fu dn : Bool} {le : Int}
theorem DskAt.c0 (h : DskAt w B bp bf bv u F V U fu le dn) : w.cell? ⟨bp, 0, none⟩ = some (.slice (some ⟨bf, 0, none⟩) F.length F.length) := by rw [cell_of_row _ _ _ _ _ _ h.hp]; rfl
theorem DskAt.c1 (h : DskAt w B bp bf bv u F V U fu le dn) : w.cell? ⟨bp, 1, none⟩ = some (.slice (some ⟨bv, 0, none⟩) V.length V.length) := by rw [cell_of_row _ _ _ _ _ _ h.hp]; rfl
theorem DskAt.c2 (h : DskAt w B bp bf bv u F V U fu le dn) : w.cell? ⟨bp, 2, none⟩ = some u := by rw [cell_of_row _ _ _ _ _ _ h.hp]; rfl
theorem DskAt.c3 (h : DskAt w B bp bf bv u F V U fu le dn) : w.cell? ⟨bp, 3, none⟩ = some (.bool fu) := by rw [cell_of_row _ _ _ _ _ _ h.hp]; rfl
theorem DskAt.c4 (h : DskAt w B bp bf bv u F V U fu le dn) : w.cell? ⟨bp, 4, none⟩ = some (.int .i64 le) := by rw [cell_of_row _ _ _ _ _ _ h.hp]; rfl
theorem DskAt.c5 (h : DskAt w B bp bf bv u F V U fu le dn) : w.cell? ⟨bp, 5, none⟩ = some (.bool dn) := by rw [cell_of_row _ _ _ _ _ _ h.hp]; rfl
theorem DskAt.fr (h : DskAt w B bp bf bv u F V U fu le dn) (i : Nat) : w.frozen? ⟨bp, i, none⟩ = false := by simp [World.frozen?, h.hp]
theorem DskAt.shapeU (h : DskAt w B bp bf bv u F V U fu le dn) : ∃ ao cap, u = .slice ao U.length cap := by
  rcases h.hu.2 with ⟨hv, h0⟩ | ⟨g, cap, cur, hv, _⟩
  · exact ⟨none, 0, by rw [hv, h0]⟩
  · exact ⟨_, cap, hv⟩
end

theorem dBlocks_at {w : World} {B : Nat} {p : Value} {F V : List (List Int)} {U : List (Nat × List Int)} (h : Dsk w B p F V U) :
    Calls Tryz.prog 130 #[p] w fun e w' => e = .returned (.int .i64 V.length) ∧ w = w' := by
  obtain ⟨bp, bf, bv, u, rfl, h⟩ := h
  have c1 := h.c1
  go_enter Tryz.func130, Tryz.ntmps130
  go_wp2
  go_ret
  exact ⟨rfl, rfl⟩
theorem dPowered_at {w : World} {B bp bf bv : Nat} {u : Value} {F V : List (List Int)} {U : List (Nat × List Int)} {le : Int} (h : DskAt w B bp bf bv u F V U false le false) :
    Calls Tryz.prog 126 #[.pointer (some ⟨bp, 0, none⟩)] w fun e w' => e = .returned (.bool true) ∧ w = w' := by
  have c3 := h.c3
  have c5 := h.c5
  go_enter Tryz.func126, Tryz.ntmps126
  go_wp2
  go_ret
  exact ⟨rfl, rfl⟩
theorem dHas_at {w : World} {B bp bf bv : Nat} {u : Value} {F V : List (List Int)} {U : List (Nat × List Int)} {fu dn : Bool} {le : Int} (h : DskAt w B bp bf bv u F V U fu le dn) (n : Int) :
    Calls Tryz.prog 92 #[.pointer (some ⟨bp, 0, none⟩), .int .i64 n] w fun e w' => e = .returned (.bool (decide (0 ≤ n ∧ n < V.length))) ∧ w = w' := by
  have c1 := h.c1
  by_cases h0 : 0 ≤ n
  · go_enter Tryz.func92, Tryz.ntmps92
    go_wp2
    go_ret
    refine ⟨?_, rfl⟩
    simp [h0]
  · go_enter Tryz.func92, Tryz.ntmps92
    go_wp2
    go_ret
    refine ⟨?_, rfl⟩
    rw [decide_eq_false (by omega)]; rfl
theorem dFits_at {w : World} {B bp bf bv : Nat} {u : Value} {F V : List (List Int)} {U : List (Nat × List Int)} {fu dn : Bool} {le : Int} (h : DskAt w B bp bf bv u F V U fu le dn) (n : Int) {v : Value} {l : List Int} (hv : BSl w v l) :
    Calls Tryz.prog 60 #[.pointer (some ⟨bp, 0, none⟩), .int .i64 n, v] w fun e w' => e = .returned (.bool (decide ((0 ≤ n ∧ n < V.length) ∧ l.length = 256))) ∧ w = w' := by
  obtain ⟨ao, cap, rfl, _⟩ := hv.shape
  by_cases hn : 0 ≤ n ∧ n < V.length
  · go_enter Tryz.func60, Tryz.ntmps60
    go_wp2_with (go_at_call 92; refine (dHas_at h n).mono ?_; rintro e w' ⟨rfl, rfl⟩; rw [decide_eq_true hn])
    go_ret
    refine ⟨?_, rfl⟩
    by_cases hl : l.length = 256
    · rw [decide_eq_true ⟨hn, hl⟩]; simp [hl]
    · rw [decide_eq_false (fun h => hl h.2)]; simp; omega
  · go_enter Tryz.func60, Tryz.ntmps60
    go_wp2_with (go_at_call 92; refine (dHas_at h n).mono ?_; rintro e w' ⟨rfl, rfl⟩; rw [decide_eq_false hn])
    go_ret
    exact ⟨by rw [decide_eq_false (fun h => hn h.1)]; rfl, rfl⟩
end Go.Proofs.YtkbeencjklgcnaaGreat

/- Package disk: New. -/
namespace Go.Proofs.YtkbeencjklgcnaaGreat
set_option maxRecDepth 100000
open Go.RowKit
set_option linter.unusedVariables false

def zb : List Int := List.replicate 256 0
theorem zb_length : zb.length = 256 := List.length_replicate
theorem zb_blk : Blk zb := ⟨zb_length, byt_replicate 256⟩
theorem cB_zb : cB zb = List.replicate 256 (.int .u8 0) := List.map_replicate
theorem zRow_eq (n : Nat) : (List.replicate n zb).flatMap cB = List.replicate (n * 256) (Value.int .u8 0) := by
  refine List.eq_replicate_iff.2 ⟨?_, fun v hv => ?_⟩
  · rw [flat_length (s := 256) (fun x hx => by rw [List.eq_of_mem_replicate hx, cB_length, zb_length]), List.length_replicate]
  · obtain ⟨b, hb, hv⟩ := List.mem_flatMap.1 hv
    rw [List.eq_of_mem_replicate hb, cB_zb] at hv
    exact List.eq_of_mem_replicate hv
theorem made_zero (n : Nat) : madeCells zB.toArray n = (List.replicate n (Value.int .u8 0)).toArray := by
  apply Array.ext
  · simp [madeCells]
  · intro i h1 h2
    have hs : zB.toArray.size = 256 := by rw [List.size_toArray, zB_length]
    have hlt : i % zB.toArray.size < zB.toArray.size := Nat.mod_lt _ (by rw [hs]; decide)
    simp only [madeCells, Array.getElem_map, Array.getElem_range, List.getElem_toArray, List.getElem_replicate]
    rw [getElem!_pos zB.toArray _ hlt, List.getElem_toArray]
    exact List.eq_of_mem_replicate (List.getElem_mem _)
def zRow (n : Nat) : Array Value := ((List.replicate n zb).flatMap cB).toArray
theorem make_blocks (W : World) (n : Nat) (hn : n ≤ 2000) : (Instr.makeSlice 84 (.int .i64 n) (.int .i64 n)).run Tryz.prog W = .ok (.slice (some ⟨W.heap.size, 0, none⟩) n n) (W.alloc (.cells (zRow n) 108)) := by
  obtain ⟨i, h2, h3, h4, h5⟩ := info_parts infoB
  have hrun := run_make (P := Tryz.prog) W 84 108 i (.agg zB.toArray) Tryz.underlying84 h2 h3 .i64 .i64 n n (by omega) (by omega) (by rw [h5]; omega) (by omega)
  simp only [Int.toNat_natCast, h4] at hrun
  rw [hrun, show (Value.agg zB.toArray).cells = zB.toArray from rfl, made_zero, zRow, zRow_eq]

theorem newDsk (w : World) (n : Nat) (hn : n ≤ 2000) (bf bv : Nat) (hb : (bf = w.heap.size ∧ bv = w.heap.size + 1) ∨ (bf = w.heap.size + 1 ∧ bv = w.heap.size)) :
    Dsk (((w.alloc (.cells (zRow n) 108)).alloc (.cells (zRow n) 108)).alloc (.cells #[.slice (some ⟨bf, 0, none⟩) n n, .slice (some ⟨bv, 0, none⟩) n n, .slice none 0 0, .bool false, .int .i64 0, .bool false] 87)).drew
      w.heap.size (.pointer (some ⟨w.heap.size + 1 + 1, 0, none⟩)) (List.replicate n zb) (List.replicate n zb) [] := by
  have s1 : (w.alloc (.cells (zRow n) 108)).heap.size = w.heap.size + 1 := by simp
  have s2 : ((w.alloc (.cells (zRow n) 108)).alloc (.cells (zRow n) 108)).heap.size = w.heap.size + 1 + 1 := by simp
  have row : ∀ (o : Obj) g, g = w.heap.size ∨ g = w.heap.size + 1 → (((w.alloc (.cells (zRow n) 108)).alloc (.cells (zRow n) 108)).alloc o).heap[g]? = some (.cells (zRow n) 108 (0, 0)) := by
    rintro o g (rfl | rfl)
    · rw [heap_alloc_old _ _ (by rw [s2]; omega), heap_alloc_old _ _ (by rw [s1]; omega)]; exact heap_alloc_last _ _
    · rw [heap_alloc_old _ _ (by rw [s2]; omega), ← s1]; exact heap_alloc_last _ _
  have hlen : (List.replicate n zb).length = n := List.length_replicate
  refine ⟨w.heap.size + 1 + 1, bf, bv, .slice none 0 0, rfl, ?_⟩
  refine ⟨by omega, by omega, ?_, row _ bf (by omega), row _ bv (by omega), ⟨rfl, .inl ⟨rfl, rfl⟩⟩, ⟨by simp [Value.ownBlock], by simp [Value.ownBlock], by simp [Value.ownBlock]⟩,
    fun b hb => by rw [List.eq_of_mem_replicate hb]; exact zb_blk, fun b hb => by rw [List.eq_of_mem_replicate hb]; exact zb_blk, fun x hx => by simp at hx, rfl, by rw [hlen]; exact hn⟩
  rw [hlen, ← s2]
  exact heap_alloc_last _ _

theorem dNew_at (w : World) (n : Nat) (hn : n ≤ 2000) :
    Calls Tryz.prog 24 #[.int .i64 n] w fun e w' => ∃ p, e = .returned p ∧ p ≠ .pointer none ∧ Dsk w' w.heap.size p (List.replicate n zb) (List.replicate n zb) [] ∧ Below w.heap.size w w' := by
  have hmk := fun W => make_blocks W n hn
  have e1 : Max.max (n : Int) 0 = n := by omega
  have e2 : Min.min (n : Int) 2000 = n := by omega
  have e3 : ((n : Int) < 0) = False := by simp
  go_enter Tryz.func24, Tryz.ntmps24
  go_wp2_with fail
  go_region
  · go_wp2
    go_ret
    exact ⟨_, rfl, by simp, newDsk w n hn _ _ (by omega), below_drewN' ((((Below.refl _ _).alloc (Nat.le_refl _) _).alloc (by simp) _).alloc (by simp; omega) _) 1⟩
  · go_wp2
    go_ret
    exact ⟨_, rfl, by simp, newDsk w n hn _ _ (by omega), below_drewN' ((((Below.refl _ _).alloc (Nat.le_refl _) _).alloc (by simp) _).alloc (by simp; omega) _) 1⟩
end Go.Proofs.YtkbeencjklgcnaaGreat

/- Package disk: Read, Write. -/
namespace Go.Proofs.YtkbeencjklgcnaaGreat
set_option maxRecDepth 100000
open Go.RowKit
set_option linter.unusedVariables false

set_option maxRecDepth 100000 in
theorem dRead_at {w : World} {B : Nat} {p : Value} {F V : List (List Int)} {U : List (Nat × List Int)} (h : Dsk w B p F V U) (n : Nat) (hn : n < V.length) :
    Calls Tryz.prog 102 #[p, .int .i64 n] w fun e w' => ∃ v, e = .returned (.tuple #[v, .int .i64 0]) ∧ BSl w' v V[n] ∧ Below w.heap.size w w' := by
  obtain ⟨bp, bf, bv, u, rfl, h⟩ := h
  have hlen : Tryz.prog.arrayLen 108 = 256 := by kernel_rfl
  have hblk : Blk V[n] := h.okV _ (List.getElem_mem _)
  have hmem := range_row h.hv (o := n * 256) (vs := cB V[n]) (by rw [cB_length, hblk.1]; exact flat_get (flatB_len h.okV) n hn)
  obtain ⟨b, hb⟩ : ∃ b, b = V[n] := ⟨_, rfl⟩
  rw [← hb] at hblk hmem ⊢
  have HL : Hid ((cB b).length = 256) := by show _ = _; rw [cB_length, hblk.1]
  have HR := Lib.hid hmem
  have HB := Lib.hid hblk
  have HZ := Lib.hid zB_length
  have HV := Lib.hid h.hv
  have hone : ∀ v ∈ zB, v.oneCell' = true := fun v hv => by rw [List.eq_of_mem_replicate hv]; rfl
  have c1 := h.c1
  have c5 := h.c5
  have hd : decide (0 ≤ (n : Int) ∧ (n : Int) < V.length) = true := decide_eq_true (by omega)
  have hn' : (n : Int) < V.length := by omega
  clear hb hblk hmem
  go_enter Tryz.func102, Tryz.ntmps102
  go_wp2_with (first
    | (go_at_call 92; refine (dHas_at h n).mono ?_; rintro e w' ⟨rfl, rfl⟩; rw [hd])
    | with_reducible refine wpList_allocB _ rfl rfl ?_
    | (refine wpList_loadB _ rfl _ (by rfl) bv (n * 256) (cB b) (by rfl) HR.out HL.out ?_)
    | (refine wpList_storeB _ rfl _ _ (by rfl) _ 108 zB (cB b) (by rfl) (by rfl) (heap_alloc_last _ _) HZ.out HL.out (cB_one b) ?_
       rw [World.setRow_alloc_new]))
  go_ret2
  refine ⟨_, rfl, ⟨HB.out.2, .inr ⟨_, 256, by rw [HB.out.1]; rfl, by rw [HB.out.1]; exact Nat.le_refl _, fun j hj => ⟨by simp, rfl, ?_⟩⟩⟩, (Below.refl _ _).alloc (Nat.le_refl _) _⟩
  show (w.alloc (.cells (cB b).toArray 108)).cell? ⟨w.heap.size, 0 + j, none⟩ = _
  rw [cell_of_row _ _ _ _ _ _ (heap_alloc_last w _)]
  simp [cB, List.getD_eq_getElem?_getD, hj]
end Go.Proofs.YtkbeencjklgcnaaGreat

/- A write's value, and a slice of one write. -/
namespace Go.Proofs.YtkbeencjklgcnaaGreat
set_option maxRecDepth 100000
open Go.RowKit
set_option linter.unusedVariables false

theorem foldl_set : ∀ (l : List Value) (k off : Nat) (cells : List Value), off + k + l.length ≤ cells.length →
    (l.zipIdx k).foldl (fun (cs : Array Value) (x : Value × Nat) => cs.setIfInBounds (off + x.2) x.1) cells.toArray = (splice cells (off + k) l).toArray
  | [], k, off, cells, _ => by simp [splice]
  | v :: l, k, off, cells, h => by
    have hl : off + k + (l.length + 1) ≤ cells.length := by simpa using h
    rw [List.zipIdx_cons, List.foldl_cons, show cells.toArray.setIfInBounds (off + k) v = (cells.set (off + k) v).toArray by simp,
      foldl_set l (k + 1) off _ (by rw [List.length_set]; omega)]
    have e := list_seg_step cells (off + k) v l (by omega)
    simp only [splice, ← Nat.add_assoc]
    simpa [Nat.add_assoc] using congrArg List.toArray e

theorem fill_cons (place : Nat → Option (Nat × Nat)) (cells : List Value) (i off size : Nat) (v : Value) (vs : List Value) (rest : List (Nat × Value)) (hp : place i = some (off, size)) (hv : v.cells = vs.toArray) (hs : vs.length = size) (hl : off + size ≤ cells.length) :
    Instr.fill place cells.toArray ((i, v) :: rest) = Instr.fill place (splice cells off vs).toArray rest := by
  have hf := foldl_set vs 0 off cells (by omega)
  rw [Nat.add_zero] at hf
  rw [Instr.fill, hp]
  have c1 : ¬ (vs.toArray.size ≠ size ∨ off + vs.toArray.size > cells.toArray.size) := by simp; omega
  simp only [hv]
  rw [if_neg (by simpa using c1)]
  congr 1
  rw [← hf]
  simp [← Array.foldl_toList]

theorem build_write (W : World) (n : Int) (b : List Int) (hb : b.length = 256) : (Instr.build 112 #[(0, .int .i64 n), (1, .agg (cB b).toArray)]).run Tryz.prog W = .ok (.agg (.int .i64 n :: cB b).toArray) W := by
  refine run_build W 112 _ _ ?_
  have hz := zB_length
  have hcb := cB_length b
  obtain ⟨it, h2, h3, h4, h5⟩ := info_parts infoW
  have hu : Tryz.prog.underlying 112 = _ := Tryz.underlying112
  unfold Program.built
  rw [h2, hu]
  simp only [h3]
  generalize hm : (List.mapM (m := Option) _ _ : Option (List (Nat × Nat))) = m
  have hm' : m = some [(0, 1), (1, 256)] := by rw [← hm]; kernel_rfl
  subst hm'
  clear hm
  show Instr.fill _ (Value.int .i64 0 :: zB).toArray _ = _
  rw [fill_cons _ _ 0 0 1 (.int .i64 n) [.int .i64 n] _ rfl rfl rfl (by rw [List.length_cons]; omega),
    show splice (Value.int .i64 0 :: zB) 0 [.int .i64 n] = .int .i64 n :: zB from rfl,
    fill_cons _ _ 1 1 256 (.agg (cB b).toArray) (cB b) _ rfl rfl (by rw [hcb, hb]) (by rw [List.length_cons]; omega),
    show splice (Value.int .i64 n :: zB) 1 (cB b) = .int .i64 n :: splice zB 0 (cB b) by simp only [splice]; rw [Nat.add_comm 1]; simp, splice_whole _ _ (by rw [hcb, hb, hz])]
  rfl

theorem slice_write (W : World) (cs : List Value) (hc : cs.length = 257) : (Instr.buildSlice 85 1 #[(0, .agg cs.toArray)]).run Tryz.prog W = .ok (.slice (some ⟨W.heap.size, 0, none⟩) 1 1) (W.alloc (.cells cs.toArray 112)) := by
  have hz := zB_length
  obtain ⟨i, h2, h3, h4, h5⟩ := info_parts infoW
  refine run_buildSlice W 85 112 1 _ cs.toArray i (.agg (Value.int .i64 0 :: zB).toArray) Tryz.underlying85 h2 h3 (by rw [h4]; decide) (by rw [h4]; decide) ?_
  rw [h4]
  generalize hA : Array.map _ _ = A
  have hs : A.toList.length = 257 := by rw [← hA]; simp
  obtain ⟨L, rfl⟩ : ∃ L : List Value, A = L.toArray := ⟨A.toList, by simp⟩
  clear hA
  rw [show (#[((0 : Nat), Value.agg cs.toArray)] : Array (Nat × Value)).toList = [(0, .agg cs.toArray)] from rfl, fill_cons _ _ 0 0 257 (.agg cs.toArray) cs _ rfl rfl hc (by simpa using Nat.le_of_eq hs.symm),
    splice_whole _ _ (by rw [hc]; exact hs.symm)]
  rfl

section
variable {w : World} {B bp bf bv : Nat} {u : Value} {F V : List (List Int)} {U : List (Nat × List Int)} {fu dn : Bool} {le : Int}
/-- A visible block turned. -/
theorem DskAt.setV (h : DskAt w B bp bf bv u F V U fu le dn) {W : World} (hw : Below w.heap.size w W) (n : Nat) (hn : n < V.length) (b : List Int) (hb : Blk b) :
    DskAt (W.setCells bv (n * 256) (cB b)) B bp bf bv u F (V.set n b) U fu le dn ∧ Wrote W (W.setCells bv (n * 256) (cB b)) bv := by
  have h' := h.below hw
  have hl := cB_length b
  have hfl := flat_length (flatB_len h.okV)
  have e := setCells_row (vs := cB b) h'.hv (o := n * 256) (by rw [hl, hb.1, hfl]; omega) (cB_one b)
  rw [flat_set (flatB_len h.okV) n hn b (by rw [hl, hb.1])] at e
  rw [e]
  have hwr := Wrote.setRow W bv ((V.set n b).flatMap cB).toArray
  have key : ∀ {g : Nat} {o : Obj}, g ≠ bv → W.heap[g]? = some o → (W.setRow bv ((V.set n b).flatMap cB).toArray).heap[g]? = some o := fun hg hh => by
    rw [hwr.2.2.2.2 _ hg]; exact hh
  refine ⟨⟨h.bB, h.ne, by rw [List.length_set]; exact key h.ne.2.1 h'.hp, key h.ne.2.2 h'.hf, setRow_heap _ _ _ _ _ _ h'.hv, ⟨h.hu.1, ?_⟩, h.une, h.okF, ?_, fun x hx => by rw [List.length_set]; exact h.okU x hx, by rw [List.length_set]; exact h.len, by rw [List.length_set]; exact h.max⟩, hwr⟩
  · rcases h'.hu.2 with h0 | ⟨g, cap, cur, hv, hg, hh, r⟩
    · exact .inl h0
    · exact .inr ⟨g, cap, cur, hv, hg, key (fun e => h.une.2.2 (by rw [hv, ← e]; rfl)) hh, r⟩
  · intro x hx
    rcases List.mem_or_eq_of_mem_set hx with hx | rfl
    · exact h.okV x hx
    · exact hb
end
end Go.Proofs.YtkbeencjklgcnaaGreat

/- Package disk: Write. -/
namespace Go.Proofs.YtkbeencjklgcnaaGreat
set_option maxRecDepth 100000
open Go.RowKit
set_option linter.unusedVariables false

theorem range_grown {w w' : World} {row : Option Nat} {b o : Nat} {cs : List Value} (h : w.rangeAt b o cs) (hg : w.grownBy w' row) (hlt : b < w.heap.size) (hne : row ≠ some b) : w'.rangeAt b o cs := fun j v hv => by
  rw [hg.cell_far _ hlt (Ne.symm hne)]; exact h j v hv
theorem range_setCell {w : World} {b o : Nat} {cs : List Value} (h : w.rangeAt b o cs) (p : Addr) (u : Value) (hne : p.block ≠ b) : (w.setCell p u).rangeAt b o cs := fun j v hv => by
  rw [World.cell?_setCell_other _ _ _ _ (fun e => hne (by rw [e]))]; exact h j v hv

/-- One more unflushed Write. -/
theorem DskAt.pushU {w : World} {B bp bf bv : Nat} {u : Value} {F V : List (List Int)} {U : List (Nat × List Int)} {fu dn : Bool} {le : Int} (h : DskAt w B bp bf bv u F V U fu le dn) {W w3 : World} (hw : Below w.heap.size w W) (hB : B ≤ w.heap.size)
    (hgrow : W.grownBy w3 u.ownBlock) (g cap : Nat) (x : Nat × List Int) (hx : x.1 < V.length ∧ Blk x.2) (hown : w3.ownsRow B 112 257 (.slice (some ⟨g, 0, none⟩) (U.length + 1) cap) (U.length + 1) (U.flatMap cU ++ cU x)) (hat : u.ownBlock = some g ∨ g = W.heap.size) :
    DskAt (w3.setCell ⟨bp, 2, none⟩ (.slice (some ⟨g, 0, none⟩) (U.length + 1) cap)) B bp bf bv (.slice (some ⟨g, 0, none⟩) (U.length + 1) cap) F V (U ++ [x]) fu le dn ∧ Below B w (w3.setCell ⟨bp, 2, none⟩ (.slice (some ⟨g, 0, none⟩) (U.length + 1) cap)) := by
  have h' := h.below hw
  have l1 := (Array.getElem?_eq_some_iff.1 h'.hp).1
  have l2 := (Array.getElem?_eq_some_iff.1 h'.hf).1
  have l3 := (Array.getElem?_eq_some_iff.1 h'.hv).1
  have n1 := h.une
  have key : ∀ {k : Nat} {o : Obj}, some k ≠ u.ownBlock → W.heap[k]? = some o → w3.heap[k]? = some o := fun hk hh => by
    rw [hgrow.block _ (Array.getElem?_eq_some_iff.1 hh).1 hk]; exact hh
  have gne : g ≠ bp ∧ g ≠ bf ∧ g ≠ bv := by
    rcases hat with hat | hat
    · rw [hat] at n1
      exact ⟨fun e => n1.1 (by rw [e]), fun e => n1.2.1 (by rw [e]), fun e => n1.2.2 (by rw [e])⟩
    · omega
  have hne := h.ne
  have oth : ∀ {k : Nat}, k ≠ bp → (w3.setCell ⟨bp, 2, none⟩ (.slice (some ⟨g, 0, none⟩) (U.length + 1) cap)).heap[k]? = w3.heap[k]? := fun hk => heap_setCell_other _ _ _ _ hk
  have hfm : (U ++ [x]).flatMap cU = U.flatMap cU ++ cU x := by simp
  have hln : (U ++ [x]).length = U.length + 1 := by simp
  refine ⟨⟨h.bB, h.ne, ?_, ?_, ?_, ?_, ?_, h.okF, h.okV, ?_, h.len, h.max⟩, ?_⟩
  · have := heap_setCell_same w3 bp 2 _ _ (.slice (some ⟨g, 0, none⟩) (U.length + 1) cap) (key (Ne.symm n1.1) h'.hp)
    simpa using this
  · rw [oth (Ne.symm hne.1)]; exact key (Ne.symm n1.2.1) h'.hf
  · rw [oth (Ne.symm hne.2.1)]; exact key (Ne.symm n1.2.2) h'.hv
  · rw [hfm, hln]
    refine ⟨hown.1, ?_⟩
    rcases hown.2 with ⟨h0, _⟩ | ⟨g', cap', cur, hv, hg, hh, r⟩
    · simp at h0
    · simp only [Value.slice.injEq, Option.some.injEq, Addr.mk.injEq, and_true, true_and] at hv
      obtain ⟨rfl, rfl⟩ := hv
      exact .inr ⟨g, cap, cur, rfl, hg, by rw [oth gne.1]; exact hh, r⟩
  · refine ⟨fun e => gne.1 (by simpa [Value.ownBlock] using e), fun e => gne.2.1 (by simpa [Value.ownBlock] using e), fun e => gne.2.2 (by simpa [Value.ownBlock] using e)⟩
  · intro y hy
    rcases List.mem_append.1 hy with hy | hy
    · exact h.okU y hy
    · obtain rfl := List.mem_singleton.1 hy; exact hx
  · refine Below.setCell (((hw.mono hB)).grown hgrow (Nat.le_trans hB hw.size) fun k hk => (h.hu.lt k hk).1) (by exact h.bB.1) _

theorem dWrite_no {w : World} {B : Nat} {p : Value} {F V : List (List Int)} {U : List (Nat × List Int)} (h : Dsk w B p F V U) (n : Int) {v : Value} {l : List Int} (hv : BSl w v l) (hno : ¬ ((0 ≤ n ∧ n < V.length) ∧ l.length = 256)) :
    Calls Tryz.prog 125 #[p, .int .i64 n, v] w fun e w' => e = .returned (.int .i64 1) ∧ w = w' := by
  obtain ⟨bp, bf, bv, u, rfl, h⟩ := h
  go_enter Tryz.func125, Tryz.ntmps125
  go_wp2_with (go_at_call 60; refine (dFits_at h n hv).mono ?_; rintro e w' ⟨rfl, rfl⟩; rw [decide_eq_false hno])
  go_ret
  exact ⟨rfl, rfl⟩

attribute [-go_sem] Instr.build Instr.buildSlice loadCellsFrom

set_option maxRecDepth 100000 in
set_option maxHeartbeats 3000000 in
theorem dWrite_at {w : World} {B : Nat} {p : Value} {F V : List (List Int)} {U : List (Nat × List Int)} (h : Dsk w B p F V U) (n : Nat) (hn : n < V.length) {v : Value} {l : List Int} (hv : BSl w v l) (hl : l.length = 256) (hU : U.length ≤ 1000000) :
    Calls Tryz.prog 125 #[p, .int .i64 n, v] w fun e w' => e = .returned (.int .i64 0) ∧ Dsk w' B p F (V.set n l) (U ++ [(n, l)]) ∧ Below B w w' := by
  obtain ⟨bp, bf, bv, u, rfl, h⟩ := h
  have hBw : B ≤ w.heap.size := by
    have h1 := (Array.getElem?_eq_some_iff.1 h.hp).1
    have := h.bB
    omega
  have hd : decide ((0 ≤ (n : Int) ∧ (n : Int) < V.length) ∧ l.length = 256) = true := decide_eq_true ⟨by omega, hl⟩
  have hn' : (n : Int) < V.length := by omega
  have HL : Hid ((cB l).length = 256) := by show _ = _; rw [cB_length, hl]
  have HB : Hid (Blk l) := ⟨hl, hv.1⟩
  have HZ := Lib.hid zB_length
  have hone : ∀ v ∈ zB, v.oneCell' = true := fun v hv => by rw [List.eq_of_mem_replicate hv]; rfl
  have HH := Lib.hid hl
  clear hl
  go_enter Tryz.func125, Tryz.ntmps125
  go_wp2_with (first
    | (go_at_call 60; refine (dFits_at h n hv).mono ?_; rintro e w' ⟨rfl, rfl⟩; rw [hd])
    | (go_at_call 126; refine (dPowered_at h).mono ?_; rintro e w' ⟨rfl, rfl⟩)
    | (go_at_call 61; refine (dBlockOf_any hv HH.out).mono ?_; rintro e w1 ⟨rfl, hb1⟩)
    | with_reducible refine wpList_allocB _ rfl rfl ?_
    | (refine wpList_storeB _ rfl _ _ (by rfl) _ 108 zB (cB l) (by rfl) (by rfl) (heap_alloc_last _ _) HZ.out HL.out (cB_one l) ?_
       rw [World.setRow_alloc_new]))
  have hb2 : Below w.heap.size w (w1.alloc (.cells (cB l).toArray 108)) := hb1.alloc hb1.size _
  obtain ⟨H1, hH1⟩ : ∃ H1, H1 = w1.heap.size := ⟨_, rfl⟩
  have hrow : (w1.alloc (.cells (cB l).toArray 108)).heap[H1]? = some (.cells (cB l).toArray 108 (0, 0)) := by rw [hH1]; exact heap_alloc_last _ _
  rw [← hH1]
  have hlt1 : bp < H1 ∧ bf < H1 ∧ bv < H1 := by
    have h1 := (Array.getElem?_eq_some_iff.1 h.hp).1
    have h2 := (Array.getElem?_eq_some_iff.1 h.hf).1
    have h3 := (Array.getElem?_eq_some_iff.1 h.hv).1
    have := hb1.size
    omega
  have HH1 := Lib.hid hH1
  clear hH1
  generalize w1.alloc (.cells (cB l).toArray 108) = W1 at hb2 hrow ⊢
  have h1 := h.below hb2
  have rL : W1.rangeAt H1 0 (cB l) := range_row hrow (by rw [List.drop_zero, List.take_length])
  have tV : W1.there bv (n * 256) (cB l).length := there_row h1.hv (by rw [HL.out, flat_length (flatB_len h.okV)]; omega)
  have c1 := h1.c1
  have hone2 := cB_one l
  have hub := Tryz.underlying108
  have hib : (Tryz.prog.info? 108).map (·.size) = some (cB l).length := by rw [sizeB, HL.out]
  have hlen := HL.out
  have H := Lib.hid h
  have HV := Lib.hid hv
  have hS1 : W1.drew.cell? ⟨bp, 1, none⟩ = some (.slice (some ⟨bv, 0, none⟩) V.length V.length) ∧ W1.drew.rangeAt H1 0 (cB l) ∧ W1.drew.there bv (n * 256) (cB l).length := ⟨c1, rL, tV⟩
  have hS2 : (W1.drew.setCells bv (n * 256) (cB l)).cell? ⟨bp, 1, none⟩ = some (.slice (some ⟨bv, 0, none⟩) V.length V.length) ∧ (W1.drew.setCells bv (n * 256) (cB l)).rangeAt H1 0 (cB l) ∧ (W1.drew.setCells bv (n * 256) (cB l)).there bv (n * 256) (cB l).length :=
    ⟨by rw [World.cell?_setCells_out _ _ _ _ _ (fun e => absurd e h.ne.2.1)]; exact c1, World.rangeAt_setCells_apart hS1.2.1 _ _ _ (.inl (by omega)), World.there_setCells hS1.2.2 _ _ _⟩
  clear h1 hrow h hv
  go_region_held (fun W => W.cell? ⟨bp, 1, none⟩ = some (.slice (some ⟨bv, 0, none⟩) V.length V.length) ∧ W.rangeAt H1 0 (cB l) ∧ W.there bv (n * 256) (cB l).length) (first | exact hS1 | exact hS2) (fail)
  go_wp2_with fail
  obtain ⟨h2, hwr⟩ := H.out.setV (W := W1.drew) (hb2.drew) n hn l HB.out
  have hrow2 : (W1.drew.setCells bv (n * 256) (cB l)).rangeAt H1 0 (cB l) := hS2.2.1
  have hb3 : Below B w (W1.drew.setCells bv (n * 256) (cB l)) := ((hb2.mono hBw).drew).trans (hwr.below H.out.bB.2.2)
  have hsz2 : H1 < (W1.drew.setCells bv (n * 256) (cB l)).heap.size := World.block_lt_of_cell? _ _ (hrow2 0 _ (List.getElem?_eq_getElem (by omega)))
  generalize W1.drew.setCells bv (n * 256) (cB l) = W2 at h2 hrow2 hb3 hsz2 ⊢
  clear hS1 hS2 rL tV c1 hwr hb2
  have hB2 : B ≤ W2.heap.size := Nat.le_trans hBw hb3.size
  obtain ⟨i, hi1, hi2, hi3, hi4⟩ := info_parts infoW
  have c2 := h2.c2
  have fz := h2.fr 2
  have hbd := fun W => build_write W n l HH.out
  have hbs := fun W => slice_write W (.int .i64 n :: cB l) (by rw [List.length_cons, HL.out])
  have hown := h2.hu
  have hcu : (Value.int .i64 n :: cB l).length = 257 := by rw [List.length_cons, HL.out]
  have hcu1 : ∀ v ∈ (Value.int .i64 n :: cB l), v.oneCell' = true := cU_one (n, l)
  have hS1 : W2.drew.rangeAt H1 0 (cB l) := hrow2
  have hbpH : bp ≠ H1 := by omega
  have huH : u.ownBlock ≠ some H1 := fun e => by have := (H.out.hu.lt _ e).2; have := hb1.size; have := HH1.out; omega
  have hB2' := Lib.hid hB2
  have hzz : (Value.agg (Value.int .i64 0 :: zB).toArray).cells.size = 257 := by show (Value.int .i64 0 :: zB).toArray.size = 257; simp [zB_length]
  have hc3 : ∀ w3, ((W2.alloc (.cells (Value.int .i64 n :: cB l).toArray 112)).drew).grownBy w3 u.ownBlock → w3.cell? ⟨bp, 2, none⟩ = some u ∧ w3.frozen? ⟨bp, 2, none⟩ = false := fun w3 hg => by
    have hlt : bp < W2.heap.size := (Array.getElem?_eq_some_iff.1 h2.hp).1
    have hlt' : bp < ((W2.alloc (.cells (Value.int .i64 n :: cB l).toArray 112)).drew).heap.size := by simp; omega
    rw [hg.cell_far _ hlt' (Ne.symm h2.une.1), hg.frozen_far _ hlt' (Ne.symm h2.une.1)]
    exact ⟨by rw [World.cell?_drew, World.cell?_alloc_lt _ _ _ hlt]; exact c2, by rw [World.frozen?_drew, World.frozen?_alloc_past _ _ _ hlt]; exact fz⟩
  have hap := fun w3 hgrow g cap hown3 hat => h2.pushU (W := (W2.alloc (.cells (Value.int .i64 n :: cB l).toArray 112)).drew) (w3 := w3) (((Below.refl _ _).alloc (Nat.le_refl _) _).drew) hB2 hgrow g cap (n, l) ⟨by rw [List.length_set]; exact hn, HB.out⟩ hown3 hat
  have hcl : (loadCellsFrom ⟨H1, 0, none⟩ 0 256 #[]).run Tryz.prog W2.drew = .ok (cB l).toArray W2.drew := by
    have := run_loadCells_list (P := Tryz.prog) W2.drew ⟨H1, 0, none⟩ (cB l) (fun j v hv => by rw [Addr.add_mid]; exact hS1 j v hv)
    rw [HL.out] at this; exact this
  have hltbp : bp < W2.heap.size := (Array.getElem?_eq_some_iff.1 h2.hp).1
  clear hub hib hlen
  go_region_law
    ((refine step_append_lies _ (by rfl) _ _ _ (by rfl) B 112 i _ 257 264 Tryz.underlying85 hi1 hi2 hi3 hi4 hzz (by omega) u U.length (U.flatMap cU) (by rfl) ((hown.alloc _).drew)
        ⟨W2.heap.size, 0, none⟩ 1 1 (Value.int .i64 n :: cB l) (by rfl) hcu (World.news_of_block (cs := (Value.int .i64 n :: cB l).toArray) (t := 112) (fr := (0, 0)) (heap_alloc_new W2 _)) hcu1
        (by omega) (by simp only [maxLen]; omega) (by omega) (Nat.le_trans hB2 (by simp)) (W2.heap.size + 1) (by simp) ?_; intro gg cap w3 hown3 hgrow hat hlt; obtain ⟨c3, f3⟩ := hc3 w3 hgrow))
  all_goals
    obtain ⟨hd3, hb4⟩ := hap w3 hgrow gg cap hown3 (by simpa using hat)
    clear hap hc3
    go_wp2_with fail
    go_ret
    exact ⟨rfl, ⟨bp, bf, bv, _, rfl, hd3⟩, hb3.trans hb4⟩
end Go.Proofs.YtkbeencjklgcnaaGreat
