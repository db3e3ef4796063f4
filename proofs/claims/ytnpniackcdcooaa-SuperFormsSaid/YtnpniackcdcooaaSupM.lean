/- Plain facts on a superblock: its twelve numbers, whether they are well formed, its bytes. -/
import Derived.Test.YtnpniackcdcooaaPackN
import Derived.Test.YtnpniackcdcooaaGeomM
namespace Go.Proofs.Ytnpniackcdcooaa
open Go.RowKit

/-- A superblock is its twelve numbers: Blocks, State, Target, Cursor, Ino, Base, and the six of the table. -/
def num (L : List Int) (i : Nat) : Int := L.getD i 0
def wid (i : Nat) : Nat := if i = 1 then 1 else 2
def pos : Nat → Nat
  | 0 => 8
  | i + 1 => pos i + wid i
def magicB : List Int := [97, 115, 104, 108, 97, 114, 32, 49]
/-- The content, up to the first i numbers. -/
def conS (L : List Int) : Nat → List Int
  | 0 => magicB
  | i + 1 => conS L i ++ lowB (num L i) (wid i)
theorem conS_length (L : List Int) : ∀ i, (conS L i).length = pos i
  | 0 => rfl
  | i + 1 => by rw [conS, List.length_append, conS_length L i, lowB_length]; rfl
def st0 (tg cu io ba : Int) : Bool := (tg == 0) && ((cu == 0) && ((io == 0) && (ba == 0)))
def st1 (b tg cu io ba : Int) : Bool := frmB tg && (decide (b < tg) && (decide (b / 64 ≤ cu ∧ cu ≤ tg / 64) && ((io == 0) && (ba == 0))))
def st2 (b tg cu io ba : Int) : Bool := frmB tg && (decide (tg < b) && ((cu == 0) && ((io == 0) && (ba == 0))))
def st3 (b tg cu io ba : Int) : Bool := (tg == 0) && (decide (1 ≤ io ∧ io ≤ 47) && (decide (0 ≤ ba ∧ ba ≤ b) && decide (0 ≤ cu ∧ cu ≤ b)))
def stS (b st tg cu io ba : Int) : Bool := if st = 0 then st0 tg cu io ba else if st = 1 then st1 b tg cu io ba else if st = 2 then st2 b tg cu io ba else if st = 3 then st3 b tg cu io ba else false
def frmSt (L : List Int) : Bool := stS (num L 0) (num L 1) (num L 2) (num L 3) (num L 4) (num L 5)
/-- The i-th block of the table is right, and none ahead of it is the same. -/
def okT (L : List Int) (i : Nat) : Prop := (0 ≤ num L (6 + i) ∧ num L (6 + i) ≤ num L 0 - 1) ∧ fixB (num L (6 + i)) = false ∧ ∀ k, k < i → num L (6 + k) ≠ num L (6 + i)
open Classical in
noncomputable def frmTo (L : List Int) : Nat → Bool
  | 0 => true
  | i + 1 => frmTo L i && decide (okT L i)
open Classical in
theorem frmTo_iff (L : List Int) : ∀ n, frmTo L n = true ↔ ∀ i, i < n → okT L i
  | 0 => ⟨fun _ i h => absurd h (Nat.not_lt_zero _), fun _ => rfl⟩
  | n + 1 => by
    rw [frmTo, Bool.and_eq_true, frmTo_iff L n, decide_eq_true_eq]
    refine ⟨fun ⟨h1, h2⟩ i hi => ?_, fun h => ⟨fun i hi => h i (by omega), h n (by omega)⟩⟩
    by_cases e : i = n
    · rw [e]; exact h2
    · exact h1 i (by omega)
theorem frmTo_succ {L : List Int} {j : Nat} (h : frmTo L j = true) (hk : okT L j) : frmTo L (j + 1) = true :=
  (frmTo_iff L (j + 1)).2 fun i hi => by
    by_cases e : i = j
    · rw [e]; exact hk
    · exact (frmTo_iff L j).1 h i (by omega)
noncomputable def frmT (L : List Int) : Bool := frmTo L 6
noncomputable def frmS (L : List Int) : Bool := frmB (num L 0) && (frmSt L && frmT L)
noncomputable def limS (L : List Int) : Int := if frmS L = true then (if num L 1 = 2 then num L 2 else num L 0) else 0
/-- Its block. -/
def encS (L : List Int) : List Int := sealS (conS L 12)
/-- What stands in the places of the numbers. -/
def rdS (l : List Int) : List Int := (List.range 12).map fun i => getV l (pos i) (wid i)
theorem rdS_length (l : List Int) : (rdS l).length = 12 := by simp [rdS]
theorem num_rdS (l : List Int) (i : Nat) (h : i < 12) : num (rdS l) i = getV l (pos i) (wid i) := by
  simp [num, rdS, List.getD_eq_getElem?_getD, h]
/-- The superblock of a block, if there is one. -/
def hasS (l : List Int) : Prop := sealed l ∧ frmS (rdS (l.take 252)) = true ∧ encS (rdS (l.take 252)) = l
def decS (l : List Int) : List Int := rdS (l.take 252)

theorem frm_bound {L : List Int} (h : frmS L = true) : frmB (num L 0) = true ∧ frmSt L = true ∧ frmT L = true := by
  simpa [frmS, Bool.and_eq_true] using h
theorem frm_tab {L : List Int} (h : frmT L = true) : ∀ i, i < 6 → okT L i := (frmTo_iff L 6).1 h
theorem frm_num {L : List Int} (h : frmS L = true) : ∀ i, i < 12 → 0 ≤ num L i ∧ num L i < 256 ^ wid i := by
  obtain ⟨h1, h2, h3⟩ := frm_bound h
  have hb := of_decide_eq_true h1
  have hst : num L 1 = 0 ∨ num L 1 = 1 ∨ num L 1 = 2 ∨ num L 1 = 3 := by
    unfold frmSt stS at h2
    split at h2
    · exact .inl ‹_›
    · split at h2
      · exact .inr (.inl ‹_›)
      · split at h2
        · exact .inr (.inr (.inl ‹_›))
        · split at h2
          · exact .inr (.inr (.inr ‹_›))
          · cases h2
  have hfr : ∀ {t : Int}, frmB t = true → 0 ≤ t ∧ t ≤ 768 := fun h => by have := of_decide_eq_true h; omega
  have hq : (0 ≤ num L 2 ∧ num L 2 ≤ 768) ∧ (0 ≤ num L 3 ∧ num L 3 ≤ 768) ∧ (0 ≤ num L 4 ∧ num L 4 ≤ 768) ∧ (0 ≤ num L 5 ∧ num L 5 ≤ 768) := by
    unfold frmSt stS at h2
    rcases hst with e | e | e | e
    · rw [e] at h2; simp only [if_true, st0, Bool.and_eq_true, beq_iff_eq] at h2; omega
    · rw [e] at h2
      simp only [show ¬ (1 : Int) = 0 by decide, if_false, if_true, st1, Bool.and_eq_true, beq_iff_eq, decide_eq_true_eq] at h2
      have := hfr h2.1; omega
    · rw [e] at h2
      simp only [show ¬ (2 : Int) = 0 by decide, show ¬ (2 : Int) = 1 by decide, if_false, if_true, st2, Bool.and_eq_true, beq_iff_eq, decide_eq_true_eq] at h2
      have := hfr h2.1; omega
    · rw [e] at h2
      simp only [show ¬ (3 : Int) = 0 by decide, show ¬ (3 : Int) = 1 by decide, show ¬ (3 : Int) = 2 by decide, if_false, if_true, st3, Bool.and_eq_true, beq_iff_eq, decide_eq_true_eq] at h2
      omega
  have ht := frm_tab h3
  intro i hi
  have w2 : ∀ j, j ≠ 1 → (256 : Int) ^ wid j = 65536 := fun j hj => by rw [wid, if_neg hj]; rfl
  by_cases h0 : i = 0
  · subst h0; rw [w2 0 (by decide)]; omega
  by_cases h1 : i = 1
  · subst h1; rw [show (256 : Int) ^ wid 1 = 256 from rfl]; omega
  rw [w2 i h1]
  by_cases h6 : i < 6
  · have : i = 2 ∨ i = 3 ∨ i = 4 ∨ i = 5 := by omega
    rcases this with rfl | rfl | rfl | rfl <;> omega
  · obtain ⟨k, rfl⟩ : ∃ k, i = 6 + k := ⟨i - 6, by omega⟩
    have := (ht k (by omega)).1
    omega

theorem getV_mid (A B : List Int) (n : Int) (k : Nat) (h : 0 ≤ n) (h1 : n < 256 ^ k) : getV (A ++ (lowB n k ++ B)) A.length k = n := by
  unfold getV
  rw [List.drop_left, List.take_left' (lowB_length n k), leB_lowB n k h]
  exact Int.emod_eq_of_lt h h1
theorem conS_split (L : List Int) (i : Nat) : ∀ j, i < j → ∃ B, conS L j = conS L i ++ (lowB (num L i) (wid i) ++ B) := by
  intro j
  induction j with
  | zero => intro h; omega
  | succ j ih =>
    intro h
    by_cases e : i = j
    · subst e; exact ⟨[], by rw [conS]; simp⟩
    · obtain ⟨B, hB⟩ := ih (by omega)
      exact ⟨B ++ lowB (num L j) (wid j), by rw [conS, hB]; simp⟩
theorem con_le (L : List Int) : (conS L 12).length = 31 := conS_length L 12
theorem seal_take (c : List Int) (h : c.length ≤ 252) : (sealS c).take 252 = fillS c := by
  rw [sealS, List.take_left' (fillS_length c h)]
theorem list12 {L : List Int} (h : L.length = 12) (M : List Int) (h' : M.length = 12) (e : ∀ i, i < 12 → num L i = num M i) : L = M := by
  apply List.ext_getElem (by rw [h, h'])
  intro i h1 h2
  have := e i (by omega)
  simpa [num, List.getD_eq_getElem?_getD, h1, h2] using this
/-- What was encoded is read as it was. -/
theorem rd_enc {L : List Int} (hL : L.length = 12) (h : frmS L = true) : rdS ((encS L).take 252) = L := by
  refine list12 (rdS_length _) _ hL fun i hi => ?_
  rw [num_rdS _ _ hi, encS, seal_take _ (by rw [con_le]; decide), fillS]
  obtain ⟨B, hB⟩ := conS_split L i 12 hi
  obtain ⟨h0, h1⟩ := frm_num h i hi
  rw [hB, List.append_assoc, List.append_assoc, ← conS_length L i]
  exact getV_mid _ _ _ _ h0 h1
theorem has_enc {L : List Int} (hL : L.length = 12) (h : frmS L = true) : hasS (encS L) ∧ decS (encS L) = L := by
  have e := rd_enc hL h
  exact ⟨⟨sealed_sealS _ (by rw [con_le]; decide), by rw [e]; exact h, by rw [e]⟩, e⟩
theorem byt_magic : ∀ x ∈ magicB, 0 ≤ x ∧ x ≤ 255 := by decide
theorem conS_byt (L : List Int) : ∀ i, ∀ x ∈ conS L i, 0 ≤ x ∧ x ≤ 255
  | 0 => byt_magic
  | i + 1 => fun x hx => by
    rw [conS] at hx
    rcases List.mem_append.1 hx with h | h
    · exact conS_byt L i x h
    · exact lowB_mem _ _ x h
end Go.Proofs.Ytnpniackcdcooaa
