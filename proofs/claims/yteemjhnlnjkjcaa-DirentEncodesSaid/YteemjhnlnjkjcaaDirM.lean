/- Entries of a directory: names, an entry's bytes, a directory's block; plain facts. -/
import Derived.Test.YteemjhnlnjkjcaaMemQ
import Derived.Test.YteemjhnlnjkjcaaPackM
import Derived.Lib.Bytealg
import Derived.Lib.AppendStr
namespace Go.Proofs.Yteemjhnlnjkjcaa
open Go.RowKit
set_option linter.unusedVariables false

/-- A string's bytes. -/
def strB (s : ByteArray) : List Int := s.data.toList.map fun c => (c.toNat : Int)
theorem strB_length (s : ByteArray) : (strB s).length = s.size := by
  rw [strB, List.length_map, Array.length_toList]; rfl
theorem strB_byt (s : ByteArray) : Byt (strB s) := byt_of_mem fun x hx => by
  obtain ⟨c, _, rfl⟩ := List.mem_map.1 hx
  have := c.toNat_lt
  omega
theorem strOf_strB (s : ByteArray) : strOfNums (strB s) = s := by
  obtain ⟨⟨l⟩⟩ := s
  unfold strOfNums strB
  congr 2
  simp only [List.map_map]
  conv => rhs; rw [← List.map_id l]
  apply List.map_congr_left
  intro c _
  simp
theorem strB_strOf {l : List Int} (h : Byt l) : strB (strOfNums l) = l := by
  unfold strB
  rw [strOfNums_data, List.map_map]
  conv => rhs; rw [← List.map_id l]
  apply List.map_congr_left
  intro x hx
  have := byt_mem h x hx
  simp
  omega
theorem strB_cells (s : ByteArray) : Lib.strCells s = (strB s).map (Value.int .u8) := by
  unfold Lib.strCells strB
  rw [List.map_map]; rfl
theorem strB_get (s : ByteArray) (k : Nat) (h : k < s.size) : (strB s).getD k 0 = ((s[k]).toNat : Int) := by
  have h2 : k < s.data.toList.length := by rw [Array.length_toList]; exact h
  unfold strB
  rw [List.getD_eq_getElem?_getD, List.getElem?_map, List.getElem?_eq_getElem h2]
  rfl

/-- No byte of them is 0 or a slash. -/
def okB (x : Int) : Bool := !(x == 0 || x == 47)
def cleanS (s : ByteArray) : Bool := (strB s).all okB
def cleanK (s : ByteArray) (k : Nat) : Bool := ((strB s).take k).all okB
theorem cleanK_zero (s : ByteArray) : cleanK s 0 = true := by simp [cleanK]
theorem cleanK_all (s : ByteArray) : cleanK s s.size = cleanS s := by
  unfold cleanK cleanS
  rw [← strB_length, List.take_length]
theorem cleanK_succ (s : ByteArray) (k : Nat) (h : k < s.size) : cleanK s (k + 1) = (cleanK s k && okB ((strB s).getD k 0)) := by
  have hk : k < (strB s).length := by rw [strB_length]; exact h
  unfold cleanK
  rw [List.take_succ_eq_append_getElem hk, List.all_append]
  simp [List.getD_eq_getElem?_getD, hk]
theorem cleanS_no (s : ByteArray) (k : Nat) (h : k < s.size) (hb : okB ((strB s).getD k 0) = false) : cleanS s = false := by
  have hk : k < (strB s).length := by rw [strB_length]; exact h
  unfold cleanS
  rw [List.all_eq_false]
  refine ⟨(strB s)[k], List.getElem_mem hk, ?_⟩
  rw [List.getD_eq_getElem?_getD, List.getElem?_eq_getElem hk] at hb
  simpa using hb
theorem idx_neg (l : List UInt8) (c : UInt8) : decide (Lib.indexByte l c < 0) = l.all (fun b => !(b == c)) := by
  induction l with
  | nil => rfl
  | cons b l ih =>
    have hg := Lib.indexByte_ge l c
    unfold Lib.indexByte
    rw [List.all_cons, ← ih]
    cases hb : b == c
    · rw [if_neg (by simp)]
      by_cases e : Lib.indexByte l c = -1
      · rw [e]; rfl
      · rw [if_neg (by simpa using e), decide_eq_false (by omega), decide_eq_false (by omega)]; rfl
    · rw [if_pos rfl]; rfl
/-- What is asked of the two bytes, each by itself. -/
theorem clean_two (s : ByteArray) : cleanS s = (decide (Lib.indexByte s.data.toList 0 < 0) && decide (Lib.indexByte s.data.toList 47 < 0)) := by
  rw [idx_neg, idx_neg]
  unfold cleanS strB
  rw [List.all_map]
  induction s.data.toList with
  | nil => rfl
  | cons b l ih =>
    rw [List.all_cons, List.all_cons, List.all_cons, ih]
    have e : (okB ∘ fun c : UInt8 => (c.toNat : Int)) b = (!(b == 0) && !(b == 47)) := by
      have e0 : ((b.toNat : Int) == 0) = (b == 0) := by
        rw [Bool.eq_iff_iff, beq_iff_eq, beq_iff_eq]
        constructor
        · intro h; apply UInt8.toNat_inj.1; have : (0 : UInt8).toNat = 0 := rfl; omega
        · intro h; rw [h]; rfl
      have e1 : ((b.toNat : Int) == 47) = (b == 47) := by
        rw [Bool.eq_iff_iff, beq_iff_eq, beq_iff_eq]
        constructor
        · intro h; apply UInt8.toNat_inj.1; have : (47 : UInt8).toNat = 47 := rfl; omega
        · intro h; rw [h]; rfl
      show (!((b.toNat : Int) == 0 || (b.toNat : Int) == 47)) = _
      rw [e0, e1, Bool.not_or]
    rw [e]
    cases (!(b == 0)) <;> cases (!(b == 47)) <;> simp

/-- The document's names. -/
def dot1 : ByteArray := ⟨#[46]⟩
def dot2 : ByteArray := ⟨#[46, 46]⟩
def nameS (s : ByteArray) : Bool := decide (1 ≤ s.size) && (decide (s.size ≤ 13) && (!(s.toList == dot1.toList) && (!(s.toList == dot2.toList) && cleanS s)))
/-- An entry; one that is well formed. -/
def frmE (e : Int × ByteArray) : Bool := decide (1 ≤ e.1) && (decide (e.1 < 48) && nameS e.2)
theorem nameS_len {s : ByteArray} (h : nameS s = true) : 1 ≤ s.size ∧ s.size ≤ 13 := by
  unfold nameS at h
  rw [Bool.and_eq_true, Bool.and_eq_true, decide_eq_true_eq, decide_eq_true_eq] at h
  exact ⟨h.1, h.2.1⟩
theorem frmE_num {e : Int × ByteArray} (h : frmE e = true) : 1 ≤ e.1 ∧ e.1 < 48 ∧ nameS e.2 = true := by
  unfold frmE at h
  rw [Bool.and_eq_true, Bool.and_eq_true, decide_eq_true_eq, decide_eq_true_eq] at h
  exact ⟨h.1, h.2.1, h.2.2⟩
theorem frmE_len {e : Int × ByteArray} (h : frmE e = true) : 1 ≤ e.2.size ∧ e.2.size ≤ 13 := nameS_len (frmE_num h).2.2

/-- An entry's bytes as far as its name goes; all of them. -/
def hdE (e : Int × ByteArray) : List Int := lowB e.1 2 ++ ((e.2.size : Int) :: strB e.2)
def encE (e : Int × ByteArray) : List Int := hdE e ++ List.replicate (13 - e.2.size) 0
theorem hdE_length (e : Int × ByteArray) : (hdE e).length = 3 + e.2.size := by
  rw [hdE, List.length_append, lowB_length, List.length_cons, strB_length]; omega
theorem encE_length {e : Int × ByteArray} (h : e.2.size ≤ 13) : (encE e).length = 16 := by
  rw [encE, List.length_append, hdE_length, List.length_replicate]; omega
theorem hdE_byt {e : Int × ByteArray} (h : e.2.size ≤ 13) : Byt (hdE e) :=
  byt_append (byt_of_mem (lowB_mem _ _)) (byt_of_mem fun x hx => by
    rcases List.mem_cons.1 hx with rfl | hx
    · omega
    · exact byt_mem (strB_byt _) x hx)
theorem encE_byt {e : Int × ByteArray} (h : e.2.size ≤ 13) : Byt (encE e) := byt_append (hdE_byt h) (byt_replicate _)
/-- What the code writes of the length, one byte. -/
theorem lowB_one (n : Nat) (h : n ≤ 13) : lowB (n : Int) 1 = [(n : Int)] := by
  rw [lowB_succ, lowB_zero, List.nil_append, Nat.mul_zero, Int.pow_zero, Int.ediv_one, Int.emod_eq_of_lt (by omega) (by omega)]
theorem hdE_parts (e : Int × ByteArray) (h : e.2.size ≤ 13) : hdE e = (([] ++ lowB e.1 2) ++ lowB (e.2.size : Int) 1) ++ strB e.2 := by
  rw [lowB_one _ h, hdE, List.nil_append]; simp
theorem hdE_parts1 (e : Int × ByteArray) : hdE e = (([] ++ lowB e.1 2) ++ [(e.2.size : Int)]) ++ strB e.2 := by
  rw [hdE, List.nil_append]; simp

/-- What sixteen bytes say. -/
def rdE (c : List Int) : Int × ByteArray := (getV c 0 2, strOfNums ((c.drop 3).take (c.getD 2 0).toNat))
def okL (c : List Int) : Prop := 1 ≤ c.getD 2 0 ∧ c.getD 2 0 ≤ 13
def okR (c : List Int) : Prop := c.getD 2 0 ≤ 13 ∧ frmE (rdE c) = true ∧ encE (rdE c) = c
theorem encE_two (e : Int × ByteArray) : (encE e).getD 2 0 = e.2.size := by
  have h2 := lowB_length e.1 2
  rw [encE, hdE, List.append_assoc, List.getD_eq_getElem?_getD, List.getElem?_append_right (by omega), h2]
  rfl
theorem rdE_enc {e : Int × ByteArray} (h : frmE e = true) : rdE (encE e) = e := by
  obtain ⟨h1, h2, _⟩ := frmE_num h
  have hl := lowB_length e.1 2
  have e1 : getV (encE e) 0 2 = e.1 := by
    unfold getV
    rw [List.drop_zero, encE, hdE, List.append_assoc, List.take_append_of_le_length (by omega), List.take_of_length_le (by omega), leB_lowB _ _ (by omega)]
    exact Int.emod_eq_of_lt (by omega) (by omega)
  have e2 : ((encE e).drop 3).take ((encE e).getD 2 0).toNat = strB e.2 := by
    rw [encE_two, Int.toNat_natCast]
    have e3 : encE e = (lowB e.1 2 ++ [(e.2.size : Int)]) ++ (strB e.2 ++ List.replicate (13 - e.2.size) 0) := by
      rw [encE, hdE]; simp
    have e4 : (lowB e.1 2 ++ [(e.2.size : Int)]).length = 3 := by simp [lowB_length]
    rw [e3, List.drop_left' e4, List.take_left' (strB_length _)]
  rw [rdE, e1, e2, strOf_strB]
theorem okL_enc {e : Int × ByteArray} (h : frmE e = true) : okL (encE e) := by
  have := frmE_len h
  unfold okL
  rw [encE_two]; omega
theorem okR_enc {e : Int × ByteArray} (h : frmE e = true) : okR (encE e) := by
  have := frmE_len h
  refine ⟨by rw [encE_two]; omega, ?_, ?_⟩
  · rw [rdE_enc h]; exact h
  · rw [rdE_enc h]
theorem okL_zero : ¬ okL (List.replicate 16 0) := by
  intro h
  have e : (List.replicate 16 (0 : Int)).getD 2 0 = 0 := rfl
  rw [okL, e] at h
  omega
theorem okR_zero : ¬ okR (List.replicate 16 0) := by
  intro h
  have e : (List.replicate 16 (0 : Int)).getD 2 0 = 0 := rfl
  have := frmE_len h.2.1
  rw [rdE, e] at this
  have e0 : (strOfNums (((List.replicate 16 (0 : Int)).drop 3).take (0 : Int).toNat)).size = 0 := rfl
  rw [e0] at this
  omega

/-- A list laid flat in pieces of one size. -/
theorem fl_length {α β : Type} {f : α → List β} {s : Nat} : ∀ {L : List α}, (∀ x ∈ L, (f x).length = s) → (L.flatMap f).length = L.length * s
  | [], _ => by simp
  | x :: L, h => by
    rw [List.flatMap_cons, List.length_append, fl_length (fun z hz => h z (List.mem_cons_of_mem _ hz)), h x (by simp), List.length_cons, Nat.succ_mul]; omega
theorem fl_get {α β : Type} {f : α → List β} {s : Nat} (R : List β) : ∀ {L : List α}, (∀ x ∈ L, (f x).length = s) → ∀ (i : Nat) (hi : i < L.length), (((L.flatMap f) ++ R).drop (i * s)).take s = f L[i]
  | [], _, i, hi => by simp at hi
  | x :: L, h, 0, _ => by
    rw [List.flatMap_cons, Nat.zero_mul, List.drop_zero, List.append_assoc, List.take_append_of_le_length (by rw [h x (by simp)]; exact Nat.le_refl _), ← h x (by simp), List.take_length]; rfl
  | x :: L, h, i + 1, hi => by
    have hx := h x (by simp)
    rw [List.flatMap_cons, show (i + 1) * s = (f x).length + i * s by rw [hx, Nat.succ_mul]; omega, List.append_assoc, List.drop_length_add_append]
    exact fl_get R (fun z hz => h z (List.mem_cons_of_mem _ hz)) i (by simpa using hi)

/-- All of them are entries, and they are not too many. -/
def allE (O : List (Int × ByteArray)) : Bool := decide (O.length ≤ 16) && O.all frmE
theorem allE_mem {O : List (Int × ByteArray)} (h : allE O = true) : O.length ≤ 16 ∧ ∀ x ∈ O, frmE x = true := by
  unfold allE at h
  rw [Bool.and_eq_true, decide_eq_true_eq, List.all_eq_true] at h
  exact h
theorem allE_yes {O : List (Int × ByteArray)} (hl : O.length ≤ 16) (h : ∀ x ∈ O, frmE x = true) : allE O = true := by
  unfold allE
  rw [Bool.and_eq_true, decide_eq_true_eq, List.all_eq_true]
  exact ⟨hl, h⟩
theorem allE_long {O : List (Int × ByteArray)} (hl : 16 < O.length) : allE O = false := by
  unfold allE
  rw [decide_eq_false (by omega)]; rfl
theorem allE_no {O : List (Int × ByteArray)} (k : Nat) (hk : k < O.length) (h : frmE (O.getD k default) = false) : allE O = false := by
  cases e : allE O
  · rfl
  · have := (allE_mem e).2 O[k] (List.getElem_mem hk)
    have e2 : O.getD k default = O[k] := by simp [List.getD_eq_getElem?_getD, hk]
    rw [e2, this] at h; cases h
/-- A directory's block; its first k entries. -/
def encK8 (O : List (Int × ByteArray)) (k : Nat) : List Int := (O.take k).flatMap encE
def encD (O : List (Int × ByteArray)) : List Int := O.flatMap encE ++ List.replicate (256 - 16 * O.length) 0
theorem encK8_succ {O : List (Int × ByteArray)} (k : Nat) (h : k < O.length) : encK8 O (k + 1) = encK8 O k ++ encE (O.getD k default) := by
  unfold encK8
  rw [List.take_succ_eq_append_getElem h, List.flatMap_append]
  simp [List.getD_eq_getElem?_getD, h]
theorem encK8_full (O : List (Int × ByteArray)) : encK8 O O.length = O.flatMap encE := by unfold encK8; rw [List.take_length]
theorem encK8_length {O : List (Int × ByteArray)} (k : Nat) (hk : k ≤ O.length) (h : ∀ j, j < k → frmE (O.getD j default) = true) : (encK8 O k).length = 16 * k := by
  unfold encK8
  rw [fl_length (s := 16), List.length_take, Nat.min_eq_left hk, Nat.mul_comm]
  intro x hx
  obtain ⟨j, hj, rfl⟩ := List.getElem_of_mem hx
  rw [List.length_take] at hj
  have h1 := h j (by omega)
  rw [List.getElem_take]
  have e2 : O.getD j default = O[j] := by simp [List.getD_eq_getElem?_getD, show j < O.length by omega]
  rw [e2] at h1
  exact encE_length (frmE_len h1).2
theorem encD_length {O : List (Int × ByteArray)} (h : allE O = true) : (encD O).length = 256 := by
  obtain ⟨h1, h2⟩ := allE_mem h
  rw [encD, List.length_append, fl_length (s := 16) (fun x hx => encE_length (frmE_len (h2 x hx)).2), List.length_replicate]; omega
theorem encK8_byt {O : List (Int × ByteArray)} (k : Nat) (h : ∀ j, j < k → frmE (O.getD j default) = true) : Byt (encK8 O k) := byt_of_mem fun x hx => by
  unfold encK8 at hx
  obtain ⟨e, he, hx⟩ := List.mem_flatMap.1 hx
  obtain ⟨j, hj, rfl⟩ := List.getElem_of_mem he
  rw [List.length_take] at hj
  have h1 := h j (by omega)
  rw [List.getElem_take] at hx
  have e2 : O.getD j default = O[j] := by simp [List.getD_eq_getElem?_getD, show j < O.length by omega]
  rw [e2] at h1
  exact byt_mem (encE_byt (frmE_len h1).2) x hx

/-- Place number k of a block. -/
def chunk8 (b : List Int) (k : Nat) : List Int := (b.drop (k * 16)).take 16
theorem chunk_enc {O : List (Int × ByteArray)} (h : allE O = true) (i : Nat) (hi : i < O.length) : chunk8 (encD O) i = encE O[i] :=
  fl_get _ (fun x hx => encE_length (frmE_len ((allE_mem h).2 x hx)).2) i hi
theorem chunk_rest {O : List (Int × ByteArray)} (h : allE O = true) (h16 : O.length < 16) : chunk8 (encD O) O.length = List.replicate 16 0 := by
  obtain ⟨h1, h2⟩ := allE_mem h
  have hl := fl_length (f := encE) (s := 16) (fun x hx => encE_length (frmE_len (h2 x hx)).2)
  unfold chunk8 encD
  rw [← hl, List.drop_left, List.take_replicate]
  congr 1
  omega
/-- b is the block of O. -/
def IsBlk (O : List (Int × ByteArray)) (b : List Int) : Prop := allE O = true ∧ encD O = b
/-- What the first k places say. -/
def rdTo8 (b : List Int) (k : Nat) : List (Int × ByteArray) := (List.range k).map fun i => rdE (chunk8 b i)
theorem rdTo8_length (b : List Int) (k : Nat) : (rdTo8 b k).length = k := by simp [rdTo8]
theorem rdTo8_succ (b : List Int) (k : Nat) : rdTo8 b (k + 1) = rdTo8 b k ++ [rdE (chunk8 b k)] := by
  unfold rdTo8
  rw [List.range_succ, List.map_append]; rfl
/-- Where the reading stops at the first place that is not P, it has read the block's entries. -/
theorem dec_shape (P : List Int → Prop) (hP : ∀ e, frmE e = true → P (encE e)) (h0 : ¬ P (List.replicate 16 0)) {b : List Int} {k : Nat} (hk : k ≤ 16) (h1 : ∀ i, i < k → P (chunk8 b i)) (h2 : k < 16 → ¬ P (chunk8 b k)) {O : List (Int × ByteArray)} (hO : IsBlk O b) : rdTo8 b k = O := by
  obtain ⟨ha, rfl⟩ := hO
  obtain ⟨hl, hf⟩ := allE_mem ha
  have hkl : k = O.length := by
    rcases Nat.lt_trichotomy k O.length with h | h | h
    · refine absurd ?_ (h2 (by omega))
      rw [chunk_enc ha k h]
      exact hP _ (hf _ (List.getElem_mem h))
    · exact h
    · refine absurd (h1 O.length h) ?_
      rw [chunk_rest ha (by omega)]
      exact h0
  subst hkl
  apply List.ext_getElem (rdTo8_length _ _)
  intro i h3 h4
  have e : (rdTo8 (encD O) O.length)[i] = rdE (chunk8 (encD O) i) := by simp [rdTo8]
  rw [e, chunk_enc ha i h4, rdE_enc (hf _ (List.getElem_mem h4))]
theorem isBlk_one {O O' : List (Int × ByteArray)} {b : List Int} (h : IsBlk O b) (h' : IsBlk O' b) : O = O' := by
  have hb := h.2
  have ha := h.1
  obtain ⟨hl, hf⟩ := allE_mem h.1
  have h1 : ∀ i, i < O.length → okL (chunk8 b i) := fun i hi => by
    rw [← hb, chunk_enc ha i hi]; exact okL_enc (hf _ (List.getElem_mem hi))
  have h2 : O.length < 16 → ¬ okL (chunk8 b O.length) := fun h16 => by
    rw [← hb, chunk_rest ha h16]; exact okL_zero
  have a := dec_shape okL (fun e => okL_enc) okL_zero hl h1 h2 h
  have b := dec_shape okL (fun e => okL_enc) okL_zero hl h1 h2 h'
  rw [← a, b]
end Go.Proofs.Yteemjhnlnjkjcaa
