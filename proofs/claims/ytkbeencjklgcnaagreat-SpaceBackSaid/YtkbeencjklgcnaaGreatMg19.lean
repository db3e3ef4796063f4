/- Plain facts on a superblock: its twelve numbers, whether they are well formed, its bytes. -/
import Derived.StillTailTactics
import Derived.Great.BuildSlice
import Derived.Lib.SlBytesConst
import Derived.Test.YtkbeencjklgcnaaGreatMg1
import Derived.Test.YtkbeencjklgcnaaGreatMg18
import Derived.Test.YtkbeencjklgcnaaGreatMg2
import Derived.Test.YtkbeencjklgcnaaGreatMg3
import Derived.Test.YtkbeencjklgcnaaGreatMg5
namespace Go.Proofs.YtkbeencjklgcnaaGreat
set_option maxRecDepth 100000
open Go.RowKit

/-- A superblock is its twelve numbers: Blocks, State, Target, Cursor, Ino, Base, and the six of the table. -/
def num (L : List Int) (i : Nat) : Int := L.getD i 0
def wid (i : Nat) : Nat := if i = 1 then 1 else 2
def pos : Nat → Nat
  | 0 => 8
  | i + 1 => pos i + wid i
def magicB : List Int := [97, 115, 104, 108, 97, 114, 32, 49]
/-- The content, up to the first i numbers. -/
def conS (L : List Int) : Nat → List Int
  | 0 => magicB
  | i + 1 => conS L i ++ lowB (num L i) (wid i)
theorem conS_length (L : List Int) : ∀ i, (conS L i).length = pos i
  | 0 => rfl
  | i + 1 => by rw [conS, List.length_append, conS_length L i, lowB_length]; rfl
def st0 (tg cu io ba : Int) : Bool := (tg == 0) && ((cu == 0) && ((io == 0) && (ba == 0)))
def st1 (b tg cu io ba : Int) : Bool := frmB tg && (decide (b < tg) && (decide (b / 64 ≤ cu ∧ cu ≤ tg / 64) && ((io == 0) && (ba == 0))))
def st2 (b tg cu io ba : Int) : Bool := frmB tg && (decide (tg < b) && ((cu == 0) && ((io == 0) && (ba == 0))))
def st3 (b tg cu io ba : Int) : Bool := (tg == 0) && (decide (1 ≤ io ∧ io ≤ 47) && (decide (0 ≤ ba ∧ ba ≤ b) && decide (0 ≤ cu ∧ cu ≤ b)))
def stS (b st tg cu io ba : Int) : Bool := if st = 0 then st0 tg cu io ba else if st = 1 then st1 b tg cu io ba else if st = 2 then st2 b tg cu io ba else if st = 3 then st3 b tg cu io ba else false
def frmSt (L : List Int) : Bool := stS (num L 0) (num L 1) (num L 2) (num L 3) (num L 4) (num L 5)
/-- The i-th block of the table is right, and none ahead of it is the same. -/
def okTS (L : List Int) (i : Nat) : Prop := (0 ≤ num L (6 + i) ∧ num L (6 + i) ≤ num L 0 - 1) ∧ fixB (num L (6 + i)) = false ∧ ∀ k, k < i → num L (6 + k) ≠ num L (6 + i)
open Classical in
noncomputable def frmTo (L : List Int) : Nat → Bool
  | 0 => true
  | i + 1 => frmTo L i && decide (okTS L i)
open Classical in
theorem frmTo_iff (L : List Int) : ∀ n, frmTo L n = true ↔ ∀ i, i < n → okTS L i
  | 0 => ⟨fun _ i h => absurd h (Nat.not_lt_zero _), fun _ => rfl⟩
  | n + 1 => by
    rw [frmTo, Bool.and_eq_true, frmTo_iff L n, decide_eq_true_eq]
    refine ⟨fun ⟨h1, h2⟩ i hi => ?_, fun h => ⟨fun i hi => h i (by omega), h n (by omega)⟩⟩
    by_cases e : i = n
    · rw [e]; exact h2
    · exact h1 i (by omega)
theorem frmTo_succ {L : List Int} {j : Nat} (h : frmTo L j = true) (hk : okTS L j) : frmTo L (j + 1) = true :=
  (frmTo_iff L (j + 1)).2 fun i hi => by
    by_cases e : i = j
    · rw [e]; exact hk
    · exact (frmTo_iff L j).1 h i (by omega)
noncomputable def frmTS (L : List Int) : Bool := frmTo L 6
noncomputable def frmS (L : List Int) : Bool := frmB (num L 0) && (frmSt L && frmTS L)
noncomputable def limS (L : List Int) : Int := if frmS L = true then (if num L 1 = 2 then num L 2 else num L 0) else 0
/-- Its block. -/
def encS (L : List Int) : List Int := sealS (conS L 12)
/-- What stands in the places of the numbers. -/
def rdS (l : List Int) : List Int := (List.range 12).map fun i => getV l (pos i) (wid i)
theorem rdS_length (l : List Int) : (rdS l).length = 12 := by simp [rdS]
theorem num_rdS (l : List Int) (i : Nat) (h : i < 12) : num (rdS l) i = getV l (pos i) (wid i) := by
  simp [num, rdS, List.getD_eq_getElem?_getD, h]
/-- The superblock of a block, if there is one. -/
def hasS (l : List Int) : Prop := sealed l ∧ frmS (rdS (l.take 252)) = true ∧ encS (rdS (l.take 252)) = l
def decS (l : List Int) : List Int := rdS (l.take 252)

theorem frm_bound {L : List Int} (h : frmS L = true) : frmB (num L 0) = true ∧ frmSt L = true ∧ frmTS L = true := by
  simpa [frmS, Bool.and_eq_true] using h
theorem frm_tab {L : List Int} (h : frmTS L = true) : ∀ i, i < 6 → okTS L i := (frmTo_iff L 6).1 h
theorem frm_num {L : List Int} (h : frmS L = true) : ∀ i, i < 12 → 0 ≤ num L i ∧ num L i < 256 ^ wid i := by
  obtain ⟨h1, h2, h3⟩ := frm_bound h
  have hb := of_decide_eq_true h1
  have hst : num L 1 = 0 ∨ num L 1 = 1 ∨ num L 1 = 2 ∨ num L 1 = 3 := by
    unfold frmSt stS at h2
    split at h2
    · exact .inl ‹_›
    · split at h2
      · exact .inr (.inl ‹_›)
      · split at h2
        · exact .inr (.inr (.inl ‹_›))
        · split at h2
          · exact .inr (.inr (.inr ‹_›))
          · cases h2
  have hfr : ∀ {t : Int}, frmB t = true → 0 ≤ t ∧ t ≤ 768 := fun h => by have := of_decide_eq_true h; omega
  have hq : (0 ≤ num L 2 ∧ num L 2 ≤ 768) ∧ (0 ≤ num L 3 ∧ num L 3 ≤ 768) ∧ (0 ≤ num L 4 ∧ num L 4 ≤ 768) ∧ (0 ≤ num L 5 ∧ num L 5 ≤ 768) := by
    unfold frmSt stS at h2
    rcases hst with e | e | e | e
    · rw [e] at h2; simp only [if_true, st0, Bool.and_eq_true, beq_iff_eq] at h2; omega
    · rw [e] at h2
      simp only [show ¬ (1 : Int) = 0 by decide, if_false, if_true, st1, Bool.and_eq_true, beq_iff_eq, decide_eq_true_eq] at h2
      have := hfr h2.1; omega
    · rw [e] at h2
      simp only [show ¬ (2 : Int) = 0 by decide, show ¬ (2 : Int) = 1 by decide, if_false, if_true, st2, Bool.and_eq_true, beq_iff_eq, decide_eq_true_eq] at h2
      have := hfr h2.1; omega
    · rw [e] at h2
      simp only [show ¬ (3 : Int) = 0 by decide, show ¬ (3 : Int) = 1 by decide, show ¬ (3 : Int) = 2 by decide, if_false, if_true, st3, Bool.and_eq_true, beq_iff_eq, decide_eq_true_eq] at h2
      omega
  have ht := frm_tab h3
  intro i hi
  have w2 : ∀ j, j ≠ 1 → (256 : Int) ^ wid j = 65536 := fun j hj => by rw [wid, if_neg hj]; rfl
  by_cases h0 : i = 0
  · subst h0; rw [w2 0 (by decide)]; omega
  by_cases h1 : i = 1
  · subst h1; rw [show (256 : Int) ^ wid 1 = 256 from rfl]; omega
  rw [w2 i h1]
  by_cases h6 : i < 6
  · have : i = 2 ∨ i = 3 ∨ i = 4 ∨ i = 5 := by omega
    rcases this with rfl | rfl | rfl | rfl <;> omega
  · obtain ⟨k, rfl⟩ : ∃ k, i = 6 + k := ⟨i - 6, by omega⟩
    have := (ht k (by omega)).1
    omega

theorem getV_mid (A B : List Int) (n : Int) (k : Nat) (h : 0 ≤ n) (h1 : n < 256 ^ k) : getV (A ++ (lowB n k ++ B)) A.length k = n := by
  unfold getV
  rw [List.drop_left, List.take_left' (lowB_length n k), leB_lowB n k h]
  exact Int.emod_eq_of_lt h h1
theorem conS_split (L : List Int) (i : Nat) : ∀ j, i < j → ∃ B, conS L j = conS L i ++ (lowB (num L i) (wid i) ++ B) := by
  intro j
  induction j with
  | zero => intro h; omega
  | succ j ih =>
    intro h
    by_cases e : i = j
    · subst e; exact ⟨[], by rw [conS]; simp⟩
    · obtain ⟨B, hB⟩ := ih (by omega)
      exact ⟨B ++ lowB (num L j) (wid j), by rw [conS, hB]; simp⟩
theorem con_le (L : List Int) : (conS L 12).length = 31 := conS_length L 12
theorem seal_take (c : List Int) (h : c.length ≤ 252) : (sealS c).take 252 = fillS c := by
  rw [sealS, List.take_left' (fillS_length c h)]
theorem list12 {L : List Int} (h : L.length = 12) (M : List Int) (h' : M.length = 12) (e : ∀ i, i < 12 → num L i = num M i) : L = M := by
  apply List.ext_getElem (by rw [h, h'])
  intro i h1 h2
  have := e i (by omega)
  simpa [num, List.getD_eq_getElem?_getD, h1, h2] using this
/-- What was encoded is read as it was. -/
theorem rd_enc {L : List Int} (hL : L.length = 12) (h : frmS L = true) : rdS ((encS L).take 252) = L := by
  refine list12 (rdS_length _) _ hL fun i hi => ?_
  rw [num_rdS _ _ hi, encS, seal_take _ (by rw [con_le]; decide), fillS]
  obtain ⟨B, hB⟩ := conS_split L i 12 hi
  obtain ⟨h0, h1⟩ := frm_num h i hi
  rw [hB, List.append_assoc, List.append_assoc, ← conS_length L i]
  exact getV_mid _ _ _ _ h0 h1
theorem has_enc {L : List Int} (hL : L.length = 12) (h : frmS L = true) : hasS (encS L) ∧ decS (encS L) = L := by
  have e := rd_enc hL h
  exact ⟨⟨sealed_sealS _ (by rw [con_le]; decide), by rw [e]; exact h, by rw [e]⟩, e⟩
theorem byt_magic : ∀ x ∈ magicB, 0 ≤ x ∧ x ≤ 255 := by decide
theorem conS_byt (L : List Int) : ∀ i, ∀ x ∈ conS L i, 0 ≤ x ∧ x ≤ 255
  | 0 => byt_magic
  | i + 1 => fun x hx => by
    rw [conS] at hx
    rcases List.mem_append.1 hx with h | h
    · exact conS_byt L i x h
    · exact lowB_mem _ _ x h
end Go.Proofs.YtkbeencjklgcnaaGreat

/- Contracts: within, formedState, the reference's states. -/
namespace Go.Proofs.YtkbeencjklgcnaaGreat
set_option maxRecDepth 100000
open Go.RowKit
set_option linter.unusedVariables false

theorem gFormed_is (b : Int) (hm : b ≤ 9223372036854775807) (B : Bool) (h : frmB b = B) (w : World) : Calls Tryz.prog 38 #[.int .i64 b] w fun e w' => e = .returned (.bool B) ∧ w = w' := by
  rw [← h]; exact gFormed_any b hm w
theorem rFormed_is (b : Int) (hm : b ≤ 9223372036854775807) (B : Bool) (h : frmB b = B) (w : World) : Calls Tryz.prog 42 #[.int .i64 b] w fun e w' => e = .returned (.bool B) ∧ w = w' := by
  rw [← h]; exact rFormed_any b hm w
theorem frm_div {b : Int} (h : frmB b = true) : 0 ≤ b ∧ b ≤ 768 ∧ grsI b = b / 64 := by
  have := of_decide_eq_true h
  exact ⟨by omega, by omega, by unfold grsI; rw [if_pos h]⟩
theorem gGroups_is (b : Int) (h : frmB b = true) (G : Int) (hG : G = b / 64) (w : World) : Calls Tryz.prog 73 #[.int .i64 b] w fun e w' => e = .returned (.int .i64 G) ∧ w = w' := by
  have := gGroups_any b (by have := frm_div h; omega) w
  rw [(frm_div h).2.2] at this
  rw [hG]; exact this

def st1g (G1 G2 b tg cu io ba : Int) : Bool := frmB tg && (decide (b < tg) && (decide (G1 ≤ cu ∧ cu ≤ G2) && ((io == 0) && (ba == 0))))
def st1r (b tg cu io ba : Int) : Bool := frmB tg && (decide (b < tg) && (decide (b / 64 ≤ cu) && (decide (cu ≤ tg / 64) && ((io == 0) && (ba == 0)))))
def st3r (b tg cu io ba : Int) : Bool := (tg == 0) && (decide (1 ≤ io) && (decide (io ≤ 47) && (decide (0 ≤ ba) && (decide (ba ≤ b) && (decide (0 ≤ cu) && (decide (cu ≤ b)))))))
theorem st1r_eq (b tg cu io ba : Int) : st1r b tg cu io ba = st1 b tg cu io ba := by simp [st1r, st1, Bool.decide_and, Bool.and_assoc]
theorem st3r_eq (b tg cu io ba : Int) : st3r b tg cu io ba = st3 b tg cu io ba := by simp [st3r, st3, Bool.decide_and, Bool.and_assoc]

set_option maxHeartbeats 2000000 in
theorem rState0 (b tg cu io ba t0 t1 t2 t3 t4 t5 : Int) (w : World)  : Calls Tryz.prog 119 #[.agg #[.int .i64 b, .int .i64 0, .int .i64 tg, .int .i64 cu, .int .i64 io, .int .i64 ba, .int .i64 t0, .int .i64 t1, .int .i64 t2, .int .i64 t3, .int .i64 t4, .int .i64 t5]] w fun e w' => e = .returned (.bool (st0 tg cu io ba)) ∧ Below w.heap.size w w' := by
  have HR : st0 tg cu io ba = ((tg == 0) && ((cu == 0) && ((io == 0) && ((ba == 0))))) := rfl
  rcases h0 : (tg == 0) with _ | _
  · replace HR : st0 tg cu io ba = false := by rw [HR, h0] <;> rfl
    rw [HR]; clear HR
    go_enter Tryz.func119, Tryz.ntmps119
    go_wp2
    go_ret
    exact ⟨rfl, below_box _ _⟩
  · rw [h0, Bool.true_and] at HR
    rcases h1 : (cu == 0) with _ | _
    · replace HR : st0 tg cu io ba = false := by rw [HR, h1] <;> rfl
      rw [HR]; clear HR
      go_enter Tryz.func119, Tryz.ntmps119
      go_wp2
      go_ret
      exact ⟨rfl, below_box _ _⟩
    · rw [h1, Bool.true_and] at HR
      rcases h2 : (io == 0) with _ | _
      · replace HR : st0 tg cu io ba = false := by rw [HR, h2] <;> rfl
        rw [HR]; clear HR
        go_enter Tryz.func119, Tryz.ntmps119
        go_wp2
        go_ret
        exact ⟨rfl, below_box _ _⟩
      · rw [h2, Bool.true_and] at HR
        rcases h3 : (ba == 0) with _ | _
        · replace HR : st0 tg cu io ba = false := by rw [HR, h3] <;> rfl
          rw [HR]; clear HR
          go_enter Tryz.func119, Tryz.ntmps119
          go_wp2
          go_ret
          exact ⟨rfl, below_box _ _⟩
        · rw [h3] at HR
          rw [HR]; clear HR
          go_enter Tryz.func119, Tryz.ntmps119
          go_wp2
          go_ret
          exact ⟨rfl, below_box _ _⟩

set_option maxHeartbeats 2000000 in
theorem rState1 (b tg cu io ba t0 t1 t2 t3 t4 t5 : Int) (w : World) (hb : frmB b = true) (hm : tg ≤ 9223372036854775807) : Calls Tryz.prog 119 #[.agg #[.int .i64 b, .int .i64 1, .int .i64 tg, .int .i64 cu, .int .i64 io, .int .i64 ba, .int .i64 t0, .int .i64 t1, .int .i64 t2, .int .i64 t3, .int .i64 t4, .int .i64 t5]] w fun e w' => e = .returned (.bool (st1r b tg cu io ba)) ∧ Below w.heap.size w w' := by
  have hb0 : 0 ≤ b := (frm_div hb).1
  have hb1 : b ≤ 768 := (frm_div hb).2.1
  have HR : st1r b tg cu io ba = ((frmB tg) && ((decide (b < tg)) && ((decide (b / 64 ≤ cu)) && ((decide (cu ≤ tg / 64)) && ((io == 0) && ((ba == 0))))))) := rfl
  rcases h0 : (frmB tg) with _ | _
  · replace HR : st1r b tg cu io ba = false := by rw [HR, h0] <;> rfl
    rw [HR]; clear HR
    have K0 := Lib.hid (rFormed_is tg hm false h0)
    clear h0
    clear hb hm
    go_enter Tryz.func119, Tryz.ntmps119
    go_wp2_with (first | (go_at_call 42; with_reducible refine (K0.out _).mono ?_; rintro e w' ⟨rfl, rfl⟩))
    go_ret
    exact ⟨rfl, below_box _ _⟩
  · rw [h0, Bool.true_and] at HR
    have ht0 : 0 ≤ tg := (frm_div h0).1
    have ht1 : tg ≤ 768 := (frm_div h0).2.1
    have K0 := Lib.hid (rFormed_is tg hm true h0)
    clear h0
    rcases h1 : (decide (b < tg)) with _ | _
    · replace HR : st1r b tg cu io ba = false := by rw [HR, h1] <;> rfl
      rw [HR]; clear HR
      have g1 : ¬ b < tg := of_decide_eq_false h1
      clear hb hm
      go_enter Tryz.func119, Tryz.ntmps119
      go_wp2_with (first | (go_at_call 42; with_reducible refine (K0.out _).mono ?_; rintro e w' ⟨rfl, rfl⟩))
      go_ret
      exact ⟨rfl, below_box _ _⟩
    · rw [h1, Bool.true_and] at HR
      have g1 : b < tg := of_decide_eq_true h1
      rcases h2 : (decide (b / 64 ≤ cu)) with _ | _
      · replace HR : st1r b tg cu io ba = false := by rw [HR, h2] <;> rfl
        rw [HR]; clear HR
        have g2 : ¬ b / 64 ≤ cu := of_decide_eq_false h2
        clear hb hm
        go_enter Tryz.func119, Tryz.ntmps119
        go_wp2_with (first | (go_at_call 42; with_reducible refine (K0.out _).mono ?_; rintro e w' ⟨rfl, rfl⟩))
        go_ret
        exact ⟨rfl, below_box _ _⟩
      · rw [h2, Bool.true_and] at HR
        have g2 : b / 64 ≤ cu := of_decide_eq_true h2
        rcases h3 : (decide (cu ≤ tg / 64)) with _ | _
        · replace HR : st1r b tg cu io ba = false := by rw [HR, h3] <;> rfl
          rw [HR]; clear HR
          have g3 : ¬ cu ≤ tg / 64 := of_decide_eq_false h3
          clear hb hm
          go_enter Tryz.func119, Tryz.ntmps119
          go_wp2_with (first | (go_at_call 42; with_reducible refine (K0.out _).mono ?_; rintro e w' ⟨rfl, rfl⟩))
          go_ret
          exact ⟨rfl, below_box _ _⟩
        · rw [h3, Bool.true_and] at HR
          have g3 : cu ≤ tg / 64 := of_decide_eq_true h3
          rcases h4 : (io == 0) with _ | _
          · replace HR : st1r b tg cu io ba = false := by rw [HR, h4] <;> rfl
            rw [HR]; clear HR
            clear hb hm
            go_enter Tryz.func119, Tryz.ntmps119
            go_wp2_with (first | (go_at_call 42; with_reducible refine (K0.out _).mono ?_; rintro e w' ⟨rfl, rfl⟩))
            go_ret
            exact ⟨rfl, below_box _ _⟩
          · rw [h4, Bool.true_and] at HR
            rcases h5 : (ba == 0) with _ | _
            · replace HR : st1r b tg cu io ba = false := by rw [HR, h5] <;> rfl
              rw [HR]; clear HR
              clear hb hm
              go_enter Tryz.func119, Tryz.ntmps119
              go_wp2_with (first | (go_at_call 42; with_reducible refine (K0.out _).mono ?_; rintro e w' ⟨rfl, rfl⟩))
              go_ret
              exact ⟨rfl, below_box _ _⟩
            · rw [h5] at HR
              rw [HR]; clear HR
              clear hb hm
              go_enter Tryz.func119, Tryz.ntmps119
              go_wp2_with (first | (go_at_call 42; with_reducible refine (K0.out _).mono ?_; rintro e w' ⟨rfl, rfl⟩))
              go_ret
              exact ⟨rfl, below_box _ _⟩

set_option maxHeartbeats 2000000 in
theorem rState2 (b tg cu io ba t0 t1 t2 t3 t4 t5 : Int) (w : World) (hb : frmB b = true) (hm : tg ≤ 9223372036854775807) : Calls Tryz.prog 119 #[.agg #[.int .i64 b, .int .i64 2, .int .i64 tg, .int .i64 cu, .int .i64 io, .int .i64 ba, .int .i64 t0, .int .i64 t1, .int .i64 t2, .int .i64 t3, .int .i64 t4, .int .i64 t5]] w fun e w' => e = .returned (.bool (st2 b tg cu io ba)) ∧ Below w.heap.size w w' := by
  have hb0 : 0 ≤ b := (frm_div hb).1
  have hb1 : b ≤ 768 := (frm_div hb).2.1
  have HR : st2 b tg cu io ba = ((frmB tg) && ((decide (tg < b)) && ((cu == 0) && ((io == 0) && ((ba == 0)))))) := rfl
  rcases h0 : (frmB tg) with _ | _
  · replace HR : st2 b tg cu io ba = false := by rw [HR, h0] <;> rfl
    rw [HR]; clear HR
    have K0 := Lib.hid (rFormed_is tg hm false h0)
    clear h0
    clear hb hm
    go_enter Tryz.func119, Tryz.ntmps119
    go_wp2_with (first | (go_at_call 42; with_reducible refine (K0.out _).mono ?_; rintro e w' ⟨rfl, rfl⟩))
    go_ret
    exact ⟨rfl, below_box _ _⟩
  · rw [h0, Bool.true_and] at HR
    have ht0 : 0 ≤ tg := (frm_div h0).1
    have ht1 : tg ≤ 768 := (frm_div h0).2.1
    have K0 := Lib.hid (rFormed_is tg hm true h0)
    clear h0
    rcases h1 : (decide (tg < b)) with _ | _
    · replace HR : st2 b tg cu io ba = false := by rw [HR, h1] <;> rfl
      rw [HR]; clear HR
      have g1 : ¬ tg < b := of_decide_eq_false h1
      clear hb hm
      go_enter Tryz.func119, Tryz.ntmps119
      go_wp2_with (first | (go_at_call 42; with_reducible refine (K0.out _).mono ?_; rintro e w' ⟨rfl, rfl⟩))
      go_ret
      exact ⟨rfl, below_box _ _⟩
    · rw [h1, Bool.true_and] at HR
      have g1 : tg < b := of_decide_eq_true h1
      rcases h2 : (cu == 0) with _ | _
      · replace HR : st2 b tg cu io ba = false := by rw [HR, h2] <;> rfl
        rw [HR]; clear HR
        clear hb hm
        go_enter Tryz.func119, Tryz.ntmps119
        go_wp2_with (first | (go_at_call 42; with_reducible refine (K0.out _).mono ?_; rintro e w' ⟨rfl, rfl⟩))
        go_ret
        exact ⟨rfl, below_box _ _⟩
      · rw [h2, Bool.true_and] at HR
        rcases h3 : (io == 0) with _ | _
        · replace HR : st2 b tg cu io ba = false := by rw [HR, h3] <;> rfl
          rw [HR]; clear HR
          clear hb hm
          go_enter Tryz.func119, Tryz.ntmps119
          go_wp2_with (first | (go_at_call 42; with_reducible refine (K0.out _).mono ?_; rintro e w' ⟨rfl, rfl⟩))
          go_ret
          exact ⟨rfl, below_box _ _⟩
        · rw [h3, Bool.true_and] at HR
          rcases h4 : (ba == 0) with _ | _
          · replace HR : st2 b tg cu io ba = false := by rw [HR, h4] <;> rfl
            rw [HR]; clear HR
            clear hb hm
            go_enter Tryz.func119, Tryz.ntmps119
            go_wp2_with (first | (go_at_call 42; with_reducible refine (K0.out _).mono ?_; rintro e w' ⟨rfl, rfl⟩))
            go_ret
            exact ⟨rfl, below_box _ _⟩
          · rw [h4] at HR
            rw [HR]; clear HR
            clear hb hm
            go_enter Tryz.func119, Tryz.ntmps119
            go_wp2_with (first | (go_at_call 42; with_reducible refine (K0.out _).mono ?_; rintro e w' ⟨rfl, rfl⟩))
            go_ret
            exact ⟨rfl, below_box _ _⟩

set_option maxHeartbeats 2000000 in
theorem rState3 (b tg cu io ba t0 t1 t2 t3 t4 t5 : Int) (w : World) (hb : frmB b = true) (hm : tg ≤ 9223372036854775807) : Calls Tryz.prog 119 #[.agg #[.int .i64 b, .int .i64 3, .int .i64 tg, .int .i64 cu, .int .i64 io, .int .i64 ba, .int .i64 t0, .int .i64 t1, .int .i64 t2, .int .i64 t3, .int .i64 t4, .int .i64 t5]] w fun e w' => e = .returned (.bool (st3r b tg cu io ba)) ∧ Below w.heap.size w w' := by
  have hb0 : 0 ≤ b := (frm_div hb).1
  have hb1 : b ≤ 768 := (frm_div hb).2.1
  have HR : st3r b tg cu io ba = ((tg == 0) && ((decide (1 ≤ io)) && ((decide (io ≤ 47)) && ((decide (0 ≤ ba)) && ((decide (ba ≤ b)) && ((decide (0 ≤ cu)) && ((decide (cu ≤ b))))))))) := rfl
  rcases h0 : (tg == 0) with _ | _
  · replace HR : st3r b tg cu io ba = false := by rw [HR, h0] <;> rfl
    rw [HR]; clear HR
    clear hb hm
    go_enter Tryz.func119, Tryz.ntmps119
    go_wp2
    go_ret
    exact ⟨rfl, below_box _ _⟩
  · rw [h0, Bool.true_and] at HR
    rcases h1 : (decide (1 ≤ io)) with _ | _
    · replace HR : st3r b tg cu io ba = false := by rw [HR, h1] <;> rfl
      rw [HR]; clear HR
      have g1 : ¬ 1 ≤ io := of_decide_eq_false h1
      clear hb hm
      go_enter Tryz.func119, Tryz.ntmps119
      go_wp2
      go_ret
      exact ⟨rfl, below_box _ _⟩
    · rw [h1, Bool.true_and] at HR
      have g1 : 1 ≤ io := of_decide_eq_true h1
      rcases h2 : (decide (io ≤ 47)) with _ | _
      · replace HR : st3r b tg cu io ba = false := by rw [HR, h2] <;> rfl
        rw [HR]; clear HR
        have g2 : ¬ io ≤ 47 := of_decide_eq_false h2
        clear hb hm
        go_enter Tryz.func119, Tryz.ntmps119
        go_wp2
        go_ret
        exact ⟨rfl, below_box _ _⟩
      · rw [h2, Bool.true_and] at HR
        have g2 : io ≤ 47 := of_decide_eq_true h2
        rcases h3 : (decide (0 ≤ ba)) with _ | _
        · replace HR : st3r b tg cu io ba = false := by rw [HR, h3] <;> rfl
          rw [HR]; clear HR
          have g3 : ¬ 0 ≤ ba := of_decide_eq_false h3
          clear hb hm
          go_enter Tryz.func119, Tryz.ntmps119
          go_wp2
          go_ret
          exact ⟨rfl, below_box _ _⟩
        · rw [h3, Bool.true_and] at HR
          have g3 : 0 ≤ ba := of_decide_eq_true h3
          rcases h4 : (decide (ba ≤ b)) with _ | _
          · replace HR : st3r b tg cu io ba = false := by rw [HR, h4] <;> rfl
            rw [HR]; clear HR
            have g4 : ¬ ba ≤ b := of_decide_eq_false h4
            clear hb hm
            go_enter Tryz.func119, Tryz.ntmps119
            go_wp2
            go_ret
            exact ⟨rfl, below_box _ _⟩
          · rw [h4, Bool.true_and] at HR
            have g4 : ba ≤ b := of_decide_eq_true h4
            rcases h5 : (decide (0 ≤ cu)) with _ | _
            · replace HR : st3r b tg cu io ba = false := by rw [HR, h5] <;> rfl
              rw [HR]; clear HR
              have g5 : ¬ 0 ≤ cu := of_decide_eq_false h5
              clear hb hm
              go_enter Tryz.func119, Tryz.ntmps119
              go_wp2
              go_ret
              exact ⟨rfl, below_box _ _⟩
            · rw [h5, Bool.true_and] at HR
              have g5 : 0 ≤ cu := of_decide_eq_true h5
              rcases h6 : (decide (cu ≤ b)) with _ | _
              · replace HR : st3r b tg cu io ba = false := by rw [HR, h6] <;> rfl
                rw [HR]; clear HR
                have g6 : ¬ cu ≤ b := of_decide_eq_false h6
                clear hb hm
                go_enter Tryz.func119, Tryz.ntmps119
                go_wp2
                go_ret
                exact ⟨rfl, below_box _ _⟩
              · rw [h6] at HR
                have g6 : cu ≤ b := of_decide_eq_true h6
                rw [HR]; clear HR
                clear hb hm
                go_enter Tryz.func119, Tryz.ntmps119
                go_wp2
                go_ret
                exact ⟨rfl, below_box _ _⟩

theorem rStateN (st : Int) (b tg cu io ba t0 t1 t2 t3 t4 t5 : Int) (w : World) (h0 : st ≠ 0) (h1 : st ≠ 1) (h2 : st ≠ 2) (h3 : st ≠ 3) : Calls Tryz.prog 119 #[.agg #[.int .i64 b, .int .i64 st, .int .i64 tg, .int .i64 cu, .int .i64 io, .int .i64 ba, .int .i64 t0, .int .i64 t1, .int .i64 t2, .int .i64 t3, .int .i64 t4, .int .i64 t5]] w fun e w' => e = .returned (.bool false) ∧ Below w.heap.size w w' := by
  have e0 : (st == 0) = false := by simp [h0]
  have e1 : (st == 1) = false := by simp [h1]
  have e2 : (st == 2) = false := by simp [h2]
  have e3 : (st == 3) = false := by simp [h3]
  clear h0 h1 h2 h3
  go_enter Tryz.func119, Tryz.ntmps119
  go_wp2
  go_ret
  exact ⟨rfl, below_box _ _⟩
end Go.Proofs.YtkbeencjklgcnaaGreat

/- Contracts: formedTable, and the table in the reference's FormedSuper. -/
namespace Go.Proofs.YtkbeencjklgcnaaGreat
set_option maxRecDepth 100000
open Go.RowKit
set_option linter.unusedVariables false

/-- The value of a superblock. -/
def supV (L : List Int) : Value := .agg (L.map (Value.int .i64)).toArray
def supO (L : List Int) (T : TypeId) : Obj := .cells (L.map (Value.int .i64)).toArray T (0, 0)
theorem sup_cell {W : World} {g : Nat} {L : List Int} {T : TypeId} (h : W.heap[g]? = some (supO L T)) (k : Nat) (hk : k < L.length) : W.cell? ⟨g, k, none⟩ = some (.int .i64 (num L k)) := by
  rw [cell_of_row _ _ _ _ _ _ h]
  simp [num, List.getD_eq_getElem?_getD, hk]
/-- Each number is one of Go's int. -/
def Top (L : List Int) : Prop := ∀ i, num L i ≤ 9223372036854775807


theorem infoInt : (Tryz.prog.info? 3).map (fun i => (i.zero, i.size, i.bytes)) = some (some (.int .i64 0), 1, 8) := by kernel_rfl
theorem arr6_len : Tryz.prog.arrayLen 96 = 6 := by kernel_rfl
theorem arr6_elem : Tryz.prog.elem 96 = 3 := by kernel_rfl
theorem run_slice_arr6 (W : World) (a : Addr) (j : Nat) (hj : j ≤ 6) : (Instr.sliceAt 96 (.pointer (some a)) none (some (.int .i64 (j : Int))) none).run Tryz.prog W = .ok (.slice (some a) j 6) W := by
  obtain ⟨i, h2, h3, h4, h5⟩ := info_parts infoInt
  rw [run_sliceAt_array_h W 96 a (by rw [arr6_len, arr6_elem]; exact Tryz.underlying96) .i64 (j : Int) (by omega) (by rw [arr6_len]; omega), arr6_len, arr6_elem]
  obtain ⟨a1, a2, a3⟩ := a
  simp [sizeOf, typeInfo, h2, h4, slicedAt, Addr.add]
theorem rStates_of {L : List Int} (hL : L.length = 12) (hT : Top L) (hb : frmB (num L 0) = true) (w : World) :
    Calls Tryz.prog 119 #[supV L] w fun e w' => e = .returned (.bool (frmSt L)) ∧ Below w.heap.size w w' := by
  match L, hL with
  | [b, st, tg, cu, io, ba, t0, t1, t2, t3, t4, t5], _ =>
    have hm : tg ≤ 9223372036854775807 := hT 2
    show Calls Tryz.prog 119 #[.agg #[.int .i64 b, .int .i64 st, .int .i64 tg, .int .i64 cu, .int .i64 io, .int .i64 ba, .int .i64 t0, .int .i64 t1, .int .i64 t2, .int .i64 t3, .int .i64 t4, .int .i64 t5]] w fun e w' => e = .returned (.bool (stS b st tg cu io ba)) ∧ Below w.heap.size w w'
    unfold stS
    by_cases h0 : st = 0
    · rw [if_pos h0, h0]; exact rState0 b tg cu io ba t0 t1 t2 t3 t4 t5 w
    rw [if_neg h0]
    by_cases h1 : st = 1
    · rw [if_pos h1, h1, ← st1r_eq]; exact rState1 b tg cu io ba t0 t1 t2 t3 t4 t5 w hb hm
    rw [if_neg h1]
    by_cases h2 : st = 2
    · rw [if_pos h2, h2]; exact rState2 b tg cu io ba t0 t1 t2 t3 t4 t5 w hb hm
    rw [if_neg h2]
    by_cases h3 : st = 3
    · rw [if_pos h3, h3, ← st3r_eq]; exact rState3 b tg cu io ba t0 t1 t2 t3 t4 t5 w hb hm
    rw [if_neg h3]
    exact rStateN st b tg cu io ba t0 t1 t2 t3 t4 t5 w h0 h1 h2 h3
theorem rStates_is {L : List Int} (hL : L.length = 12) (hT : Top L) (hb : frmB (num L 0) = true) (B : Bool) (h : frmSt L = B) (w : World) :
    Calls Tryz.prog 119 #[supV L] w fun e w' => e = .returned (.bool B) ∧ Below w.heap.size w w' := by rw [← h]; exact rStates_of hL hT hb w
/-- The twelve cells of a superblock, one by one. -/
theorem sup_cells {W : World} {g : Nat} {T : TypeId} {b st tg cu io ba t0 t1 t2 t3 t4 t5 : Int} (h : W.heap[g]? = some (supO [b, st, tg, cu, io, ba, t0, t1, t2, t3, t4, t5] T)) :
    (W.cell? ⟨g, 0, none⟩ = some (.int .i64 b) ∧ W.cell? ⟨g, 1, none⟩ = some (.int .i64 st) ∧ W.cell? ⟨g, 2, none⟩ = some (.int .i64 tg) ∧ W.cell? ⟨g, 3, none⟩ = some (.int .i64 cu)) ∧
    (W.cell? ⟨g, 4, none⟩ = some (.int .i64 io) ∧ W.cell? ⟨g, 5, none⟩ = some (.int .i64 ba) ∧ W.cell? ⟨g, 6, none⟩ = some (.int .i64 t0) ∧ W.cell? ⟨g, 7, none⟩ = some (.int .i64 t1)) ∧
    W.cell? ⟨g, 8, none⟩ = some (.int .i64 t2) ∧ W.cell? ⟨g, 9, none⟩ = some (.int .i64 t3) ∧ W.cell? ⟨g, 10, none⟩ = some (.int .i64 t4) ∧ W.cell? ⟨g, 11, none⟩ = some (.int .i64 t5) := by
  refine ⟨⟨?_, ?_, ?_, ?_⟩, ⟨?_, ?_, ?_, ?_⟩, ?_, ?_, ?_, ?_⟩ <;> (rw [cell_of_row _ _ _ _ _ _ h]; rfl)

end Go.Proofs.YtkbeencjklgcnaaGreat

/- Contract of fields: the places of a superblock's twelve numbers, and how many bytes each has. -/
namespace Go.Proofs.YtkbeencjklgcnaaGreat
set_option maxRecDepth 100000
open Go.RowKit
set_option linter.unusedVariables false

/-- The cells of the first n fields of the superblock in block g. -/
def fldL (g n : Nat) : List Value := (List.range n).flatMap fun i => [.pointer (some ⟨g, i, none⟩), .int .i64 (wid i : Int)]
theorem fldL_succ (g n : Nat) : fldL g (n + 1) = fldL g n ++ [.pointer (some ⟨g, n, none⟩), .int .i64 (wid n : Int)] := by
  simp [fldL, List.range_succ]
theorem fldL_length (g n : Nat) : (fldL g n).length = n * 2 := by
  induction n with
  | zero => rfl
  | succ n ih => rw [fldL_succ, List.length_append, ih]; simp; omega
theorem fldL_get (g : Nat) : ∀ n i, i < n → (fldL g n)[i * 2]? = some (.pointer (some ⟨g, i, none⟩)) ∧ (fldL g n)[i * 2 + 1]? = some (.int .i64 (wid i : Int))
  | 0, i, h => absurd h (Nat.not_lt_zero _)
  | n + 1, i, h => by
    have hl := fldL_length g n
    rw [fldL_succ]
    by_cases e : i < n
    · have := fldL_get g n i e
      rw [List.getElem?_append_left (by omega), List.getElem?_append_left (by omega)]; exact this
    · obtain rfl : i = n := by omega
      rw [List.getElem?_append_right (by omega), List.getElem?_append_right (by omega), hl]
      exact ⟨by simp, by rw [show i * 2 + 1 - i * 2 = 1 by omega]; rfl⟩
theorem wid_le (j : Nat) : 1 ≤ wid j ∧ wid j ≤ 2 := by unfold wid; split <;> omega
end Go.Proofs.YtkbeencjklgcnaaGreat

/- Contracts: Limit; the reference's FormedSuper and Limit. -/
namespace Go.Proofs.YtkbeencjklgcnaaGreat
set_option maxRecDepth 100000
open Go.RowKit
set_option linter.unusedVariables false

theorem rLoop_of (b st tg cu io ba t0 t1 t2 t3 t4 t5 : Int) (L : List Int) (hLL : L = [b, st, tg, cu, io, ba, t0, t1, t2, t3, t4, t5]) (hT : Top L) (hb1 : b ≤ 768) (w : World)
    (hF : ∀ w, Calls Tryz.prog 42 #[.int .i64 b] w fun e w' => e = .returned (.bool true) ∧ w = w')
    (hS : ∀ w, Calls Tryz.prog 119 #[.agg #[.int .i64 b, .int .i64 st, .int .i64 tg, .int .i64 cu, .int .i64 io, .int .i64 ba, .int .i64 t0, .int .i64 t1, .int .i64 t2, .int .i64 t3, .int .i64 t4, .int .i64 t5]] w fun e w' => e = .returned (.bool true) ∧ Below w.heap.size w w') :
    Calls Tryz.prog 91 #[.agg #[.int .i64 b, .int .i64 st, .int .i64 tg, .int .i64 cu, .int .i64 io, .int .i64 ba, .int .i64 t0, .int .i64 t1, .int .i64 t2, .int .i64 t3, .int .i64 t4, .int .i64 t5]] w fun e w' => e = .returned (.bool (frmTS L)) ∧ Below w.heap.size w w' := by
  have hob := below_box w (supO L 98)
  have hh := heap_alloc_new w (supO L 98)
  obtain ⟨W1, hW1⟩ : ∃ W1, W1 = w.alloc (supO L 98) := ⟨_, rfl⟩
  rw [← hW1] at hob hh
  have hW2 : w.alloc (.cells #[.int .i64 b, .int .i64 st, .int .i64 tg, .int .i64 cu, .int .i64 io, .int .i64 ba, .int .i64 t0, .int .i64 t1, .int .i64 t2, .int .i64 t3, .int .i64 t4, .int .i64 t5] 98) = W1 := by rw [hW1, hLL]; rfl
  have eb : num L 0 = b := by rw [hLL]; rfl
  have hlen : L.length = 12 := by rw [hLL]; rfl
  have H2 := Lib.hid hW2
  have HH := Lib.hid hh
  have HL := Lib.hid hLL
  have HLE := Lib.hid hlen
  have HTO := Lib.hid hT
  have K0 := Lib.hid hF
  have K1 := Lib.hid hS
  clear hF hS hh hW1 hW2 hT hLL hlen
  go_enter Tryz.func91, Tryz.ntmps91
  go_wp2_with (first
    | (go_at_call 42; with_reducible refine (K0.out _).mono ?_; rintro e w' ⟨rfl, rfl⟩)
    | (go_at_call 119; rw [H2.out]; refine (K1.out _).mono ?_; rintro e w2 ⟨rfl, hb2⟩))
  have hbe : Below w.heap.size w w2 := hob.trans (hb2.mono hob.size)
  have hh2 : w2.heap[w.heap.size]? = some (supO L 98) := (hb2.block _ (Array.getElem?_eq_some_iff.1 HH.out).1).trans HH.out
  have hcel := fun k hk => sup_cell hh2 k hk
  rw [HLE.out] at hcel
  have HC := Lib.hid hcel
  clear hcel hh2 hb2
  go_loopw [14] (fun i wr => ∃ j : Nat, j ≤ 6 ∧ i = .int .i64 j ∧ Hid (frmTo L j = true) ∧ Below w.heap.size w wr ∧ Hid (∀ k, k < 12 → wr.cell? ⟨w.heap.size, k, none⟩ = some (.int .i64 (num L k)))) (fun i _ => 6 - (intOf i).toNat)
  case atStart => exact ⟨0, by omega, rfl, rfl, hbe, HC⟩
  case round =>
    clear HC hbe
    obtain ⟨j, hj, rfl, HF, hbe, HC⟩ := hrel
    by_cases hlt : j < 6
    · have hcx := HC.out (6 + j) (by omega)
      have hxm := HTO.out (6 + j)
      have hcb := HC.out 0 (by omega)
      rw [eb] at hcb
      obtain ⟨x, hx⟩ : ∃ x, x = num L (6 + j) := ⟨_, rfl⟩
      rw [← hx] at hcx hxm
      have HX := Lib.hid hx
      clear hx
      have hno : ¬ okTS L j → frmTS L = false := fun h => by
        cases hf : frmTS L
        · rfl
        · exact absurd (frm_tab hf j hlt) h
      have HNO := Lib.hid hno
      clear hno
      have ej : (j : Int) < 6 := by omega
      rcases h1 : decide (x < 0) with _ | _
      · have HH1 := Lib.hid (of_decide_eq_false h1)
        rcases h2 : decide (b ≤ x) with _ | _
        · have HH2 := Lib.hid (of_decide_eq_false h2)
          rcases h3 : fixB x with _ | _
          · have K2 := Lib.hid (rFixed_is x hxm false h3)
            have HH3 := Lib.hid h3
            clear h3
            go_wp2
            go_quiet ((go_at_call 47; exact quiet_back (K2.out _)))
            go_wp2
            clear h1 h2 hcb
            go_loopw [39] (fun i wr => ∃ k : Nat, k ≤ j ∧ i = .int .i64 k ∧ Hid (∀ m, m < k → num L (6 + m) ≠ num L (6 + j)) ∧ Below w.heap.size w wr ∧ Hid (∀ k, k < 12 → wr.cell? ⟨w.heap.size, k, none⟩ = some (.int .i64 (num L k)))) (fun i _ => j - (intOf i).toNat)
            case atStart => exact ⟨0, by omega, rfl, fun m hm => absurd hm (Nat.not_lt_zero _), below_drewN' hbe _, fun k hk => HC.out k hk⟩
            case round =>
              clear HC hbe hcx
              obtain ⟨k, hk, rfl, HK, hbe, HC⟩ := hrel
              by_cases hlk : k < j
              · have hck := HC.out (6 + k) (by omega)
                have hcx : wr.cell? ⟨w.heap.size, 6 + j, none⟩ = some (.int .i64 x) := by rw [HX.out]; exact HC.out (6 + j) (by omega)
                obtain ⟨y, hy⟩ : ∃ y, y = num L (6 + k) := ⟨_, rfl⟩
                rw [← hy] at hck
                have HY := Lib.hid hy
                clear hy
                have elk : (k : Int) < (j : Int) := by omega
                have ek : (k : Int) < 6 := by omega
                rcases h3 : (y == x) with _ | _
                · go_wp2
                  go_quiet (fail)
                  go_wp2
                  go_roundw
                  case rel =>
                    refine ⟨k + 1, by omega, by go_num, fun m hm => ?_, below_drewN' hbe _, fun k hk => HC.out k hk⟩
                    by_cases e : m = k
                    · subst e; rw [← HY.out, ← HX.out]; intro e; rw [e] at h3; simp at h3
                    · exact HK.out m (by omega)
                  case measure => simp [intOf]; omega
                · have hr := HNO.out (fun h => h.2.2 k hlk (by rw [← HY.out, ← HX.out]; simpa using h3))
                  go_wp2
                  go_quiet (fail)
                  go_wp2
                  go_ret
                  exact ⟨by first | rfl | (rw [hr]; rfl), below_drewN' hbe _⟩
              · go_wp2
                go_roundw
                case rel =>
                  obtain rfl : k = j := by omega
                  refine ⟨k + 1, by omega, by go_num, ?_, hbe, HC⟩
                  show frmTo L (k + 1) = true
                  exact frmTo_succ HF.out ⟨⟨by rw [← HX.out]; have := HH1.out; omega, by rw [← HX.out, eb]; have := HH2.out; omega⟩, by rw [← HX.out]; exact HH3.out, HK.out⟩
                case measure => simp [intOf]; omega
          · have hr := HNO.out (fun h => by have := h.2.1; rw [← HX.out, h3] at this; cases this)
            have K2 := Lib.hid (rFixed_is x hxm true h3)
            clear h3
            go_wp2
            go_quiet ((go_at_call 47; exact quiet_back (K2.out _)))
            go_wp2
            go_ret
            exact ⟨by first | rfl | (rw [hr]; rfl), below_drewN' hbe _⟩
        · have hr := HNO.out (fun h => by have := h.1.2; rw [← HX.out, eb] at this; have := of_decide_eq_true h2; omega)
          have g2 : b ≤ x := of_decide_eq_true h2
          go_wp2
          go_quiet (fail)
          go_wp2
          go_ret
          exact ⟨by first | rfl | (rw [hr]; rfl), below_drewN' hbe _⟩
      · have hr := HNO.out (fun h => by have := h.1.1; rw [← HX.out] at this; have := of_decide_eq_true h1; omega)
        have g1 : x < 0 := of_decide_eq_true h1
        go_wp2
        go_quiet (fail)
        go_wp2
        go_ret
        exact ⟨by first | rfl | (rw [hr]; rfl), below_drewN' hbe _⟩
    · go_wp2
      go_ret
      obtain rfl : j = 6 := by omega
      exact ⟨by rw [frmTS, HF.out]; rfl, hbe⟩

theorem rFormS_of {L : List Int} (hL : L.length = 12) (hT : Top L) (w : World) :
    Calls Tryz.prog 91 #[supV L] w fun e w' => e = .returned (.bool (frmS L)) ∧ Below w.heap.size w w' := by
  have h0 : frmB (num L 0) = false ∨ frmB (num L 0) = true := by cases frmB (num L 0) <;> simp
  have h1 : frmSt L = false ∨ frmSt L = true := by cases frmSt L <;> simp
  have hm := hT 0
  have hT' := hT
  have KF : ∀ B, frmB (num L 0) = B → _ := fun B h => rFormed_is (num L 0) hm B h
  have KS : ∀ (hb : frmB (num L 0) = true) B, frmSt L = B → _ := fun hb B h => rStates_is hL hT hb B h
  have hr : frmS L = (frmB (num L 0) && (frmSt L && frmTS L)) := rfl
  have hob := below_box w (supO L 98)
  obtain ⟨W1, hW1⟩ : ∃ W1, W1 = w.alloc (supO L 98) := ⟨_, rfl⟩
  rw [← hW1] at hob
  match L, hL with
  | [b, st, tg, cu, io, ba, t0, t1, t2, t3, t4, t5], _ =>
    have hW2 : w.alloc (.cells #[.int .i64 b, .int .i64 st, .int .i64 tg, .int .i64 cu, .int .i64 io, .int .i64 ba, .int .i64 t0, .int .i64 t1, .int .i64 t2, .int .i64 t3, .int .i64 t4, .int .i64 t5] 98) = W1 := by
      rw [hW1]; rfl
    have H2 := Lib.hid hW2
    show Calls Tryz.prog 91 #[.agg #[.int .i64 b, .int .i64 st, .int .i64 tg, .int .i64 cu, .int .i64 io, .int .i64 ba, .int .i64 t0, .int .i64 t1, .int .i64 t2, .int .i64 t3, .int .i64 t4, .int .i64 t5]] w fun e w' => e = .returned (.bool (frmS _)) ∧ Below w.heap.size w w'
    rw [hr]
    change _ ≤ _ at hm
    rcases h0 with h0 | h0
    · rw [h0]
      have K0 : Hid (∀ w, Calls Tryz.prog 42 #[.int .i64 b] w fun e w' => e = .returned (.bool false) ∧ w = w') := Lib.hid (KF _ h0)
      clear KF KS hr h0 h1 hW1 hW2 hT hm hT'
      go_enter Tryz.func91, Tryz.ntmps91
      go_wp2_with (first | (go_at_call 42; with_reducible refine (K0.out _).mono ?_; rintro e w' ⟨rfl, rfl⟩))
      go_ret
      exact ⟨rfl, below_box _ _⟩
    · rw [h0, Bool.true_and]
      have K0 : Hid (∀ w, Calls Tryz.prog 42 #[.int .i64 b] w fun e w' => e = .returned (.bool true) ∧ w = w') := Lib.hid (KF _ h0)
      rcases h1 with h1 | h1
      · rw [h1, Bool.false_and]
        have K1 : Hid (∀ w, Calls Tryz.prog 119 #[.agg #[.int .i64 b, .int .i64 st, .int .i64 tg, .int .i64 cu, .int .i64 io, .int .i64 ba, .int .i64 t0, .int .i64 t1, .int .i64 t2, .int .i64 t3, .int .i64 t4, .int .i64 t5]] w fun e w' => e = .returned (.bool false) ∧ Below w.heap.size w w') := Lib.hid (KS h0 _ h1)
        clear KF KS hr h0 h1 hW1 hW2 hT hm hT'
        go_enter Tryz.func91, Tryz.ntmps91
        go_wp2_with (first
          | (go_at_call 42; with_reducible refine (K0.out _).mono ?_; rintro e w' ⟨rfl, rfl⟩)
          | (go_at_call 119; rw [H2.out]; refine (K1.out _).mono ?_; rintro e w2 ⟨rfl, hb2⟩))
        go_ret
        exact ⟨rfl, hob.trans (hb2.mono hob.size)⟩
      · rw [h1, Bool.true_and]
        have K1 : Hid (∀ w, Calls Tryz.prog 119 #[.agg #[.int .i64 b, .int .i64 st, .int .i64 tg, .int .i64 cu, .int .i64 io, .int .i64 ba, .int .i64 t0, .int .i64 t1, .int .i64 t2, .int .i64 t3, .int .i64 t4, .int .i64 t5]] w fun e w' => e = .returned (.bool true) ∧ Below w.heap.size w w') := Lib.hid (KS h0 _ h1)
        exact rLoop_of b st tg cu io ba t0 t1 t2 t3 t4 t5 _ rfl hT' (frm_div h0).2.1 w K0.out K1.out
theorem rFormS_is {L : List Int} (hL : L.length = 12) (hT : Top L) (B : Bool) (h : frmS L = B) (w : World) :
    Calls Tryz.prog 91 #[supV L] w fun e w' => e = .returned (.bool B) ∧ Below w.heap.size w w' := by rw [← h]; exact rFormS_of hL hT w
end Go.Proofs.YtkbeencjklgcnaaGreat

/- Contract of Encode. -/
namespace Go.Proofs.YtkbeencjklgcnaaGreat
set_option maxRecDepth 100000
open Go.RowKit
set_option linter.unusedVariables false

/-- What Encode hands back. -/
def EncOut (L : List Int) (w : World) (e : Ending) (w' : World) : Prop :=
  (frmS L = true ∧ ∃ v, e = .returned (.tuple #[v, .int .i64 0]) ∧ OB w' w.heap.size v (encS L) ∧ Below w.heap.size w w') ∨
  (frmS L = false ∧ e = .returned (.tuple #[.slice none 0 0, .int .i64 1]) ∧ Below w.heap.size w w')

theorem num_fit {L : List Int} (h : frmS L = true) (j : Nat) (hj : j < 12) : 0 ≤ num L j ∧ num L j < 65536 := by
  have h1 := frm_num h j hj
  have := pow256_le (wid_le j).2
  have e : (256 : Int) ^ 2 = 65536 := rfl
  omega

theorem pos_le : ∀ j, pos j ≤ 8 + 2 * j
  | 0 => Nat.le_refl _
  | j + 1 => by have := pos_le j; have := wid_le j; rw [pos]; omega
theorem put_con {L : List Int} (j : Nat) (hj : j < 12) (x : Int) (hx : x = num L j) (hx0 : 0 ≤ x ∧ x < 65536) (k : Nat) (hk : k = wid j) (W : World) (u : Value) (hs : BSl W u (conS L j)) :
    Calls Tryz.prog 115 #[u, .int .u64 x, .int .i64 (k : Int)] W (NewB W (conS L (j + 1))) := by
  have h1 := wid_le j
  have h2 := pos_le j
  have h3 := conS_length L j
  rw [conS, ← hx, ← hk]
  exact pPut_at hs (by omega) x k k (by omega) (by omega) rfl hx0.1 (by omega)
theorem rput_con {L : List Int} (j : Nat) (hj : j < 12) (x : Int) (hx : x = num L j) (hx0 : 0 ≤ x ∧ x < 65536) (k : Nat) (hk : k = wid j) (W : World) (u : Value) (hs : BSl W u (conS L j)) :
    Calls Tryz.prog 86 #[u, .int .u64 x, .int .i64 (k : Int)] W (NewB W (conS L (j + 1))) := by
  have h1 := wid_le j
  have h2 := pos_le j
  have h3 := conS_length L j
  rw [conS, ← hx, ← hk]
  exact rPut_at hs (by omega) x k k (by omega) (by omega) rfl hx0.1 (by omega)
theorem bsl_magic (w2 : World) : BSl (w2.alloc (.cells #[.int .u8 97, .int .u8 115, .int .u8 104, .int .u8 108, .int .u8 97, .int .u8 114, .int .u8 32, .int .u8 49] 5 (8, 9))) (.slice (some ⟨w2.heap.size, 0, none⟩) 8 8) magicB := by
  refine ⟨byt_of_mem byt_magic, .inr ⟨_, 8, rfl, by decide, fun j hj => ⟨by simp, rfl, ?_⟩⟩⟩
  have hj : j < 8 := hj
  have hh : (w2.alloc (.cells #[.int .u8 97, .int .u8 115, .int .u8 104, .int .u8 108, .int .u8 97, .int .u8 114, .int .u8 32, .int .u8 49] 5 (8, 9))).heap[w2.heap.size]? = some (.cells #[.int .u8 97, .int .u8 115, .int .u8 104, .int .u8 108, .int .u8 97, .int .u8 114, .int .u8 32, .int .u8 49] 5 (8, 9)) := by
    show (w2.heap.push _)[w2.heap.size]? = _
    simp
  rw [Nat.zero_add, cell_of_row _ _ _ _ _ _ hh]
  have : j = 0 ∨ j = 1 ∨ j = 2 ∨ j = 3 ∨ j = 4 ∨ j = 5 ∨ j = 6 ∨ j = 7 := by omega
  rcases this with rfl | rfl | rfl | rfl | rfl | rfl | rfl | rfl <;> rfl

end Go.Proofs.YtkbeencjklgcnaaGreat

/- Contract of the reference's EncodeSuper. -/
namespace Go.Proofs.YtkbeencjklgcnaaGreat
set_option maxRecDepth 100000
open Go.RowKit
set_option linter.unusedVariables false

theorem rput2 {L : List Int} (j : Nat) (hj : j < 12) (h1 : j ≠ 1) (x : Int) (hx : x = num L j) (hx0 : 0 ≤ x ∧ x < 65536) (W : World) (u : Value) (hs : BSl W u (conS L j)) :
    Calls Tryz.prog 86 #[u, .int .u64 x, .int .i64 2] W (NewB W (conS L (j + 1))) := rput_con j hj x hx hx0 2 (if_neg h1).symm W u hs
theorem con_state {L : List Int} (x : Int) (hx : x = num L 1) (h0 : 0 ≤ x ∧ x < 256) : conS L 1 ++ [x] = conS L 2 := by
  rw [show conS L 2 = conS L 1 ++ lowB (num L 1) (wid 1) from rfl, ← hx, show wid 1 = 1 from rfl, lowB_succ, lowB_zero]
  simp
  omega

theorem rEnc_yes (b st tg cu io ba t0 t1 t2 t3 t4 t5 : Int) (L : List Int) (hLL : L = [b, st, tg, cu, io, ba, t0, t1, t2, t3, t4, t5]) (hf : frmS L = true) (w : World)
    (hF : ∀ w, Calls Tryz.prog 91 #[.agg #[.int .i64 b, .int .i64 st, .int .i64 tg, .int .i64 cu, .int .i64 io, .int .i64 ba, .int .i64 t0, .int .i64 t1, .int .i64 t2, .int .i64 t3, .int .i64 t4, .int .i64 t5]] w fun e w' => e = .returned (.bool true) ∧ Below w.heap.size w w') :
    Calls Tryz.prog 59 #[.agg #[.int .i64 b, .int .i64 st, .int .i64 tg, .int .i64 cu, .int .i64 io, .int .i64 ba, .int .i64 t0, .int .i64 t1, .int .i64 t2, .int .i64 t3, .int .i64 t4, .int .i64 t5]] w fun e w' => ∃ v, e = .returned (.tuple #[v, .int .i64 0]) ∧ OB w' w.heap.size v (encS L) ∧ Below w.heap.size w w' := by
  have hob := below_box w (supO L 98)
  have hh := heap_alloc_new w (supO L 98)
  obtain ⟨W1, hW1⟩ : ∃ W1, W1 = w.alloc (supO L 98) := ⟨_, rfl⟩
  rw [← hW1] at hob hh
  have hW2 : w.alloc (.cells #[.int .i64 b, .int .i64 st, .int .i64 tg, .int .i64 cu, .int .i64 io, .int .i64 ba, .int .i64 t0, .int .i64 t1, .int .i64 t2, .int .i64 t3, .int .i64 t4, .int .i64 t5] 98) = W1 := by rw [hW1, hLL]; rfl
  have hlen : L.length = 12 := by rw [hLL]; rfl
  have hsz : w.heap.size < W1.heap.size := by rw [hW1]; simp
  have kc := fun (w : World) (C : Array Value) (n c : Nat) => Lib.run_convert_bytes_const (P := Tryz.prog) w 62 5 C n c Tryz.underlying62 Tryz.underlying5
  have e0 : b = num L 0 := by rw [hLL]; rfl
  have e1 : st = num L 1 := by rw [hLL]; rfl
  have e2 : tg = num L 2 := by rw [hLL]; rfl
  have e3 : cu = num L 3 := by rw [hLL]; rfl
  have e4 : io = num L 4 := by rw [hLL]; rfl
  have e5 : ba = num L 5 := by rw [hLL]; rfl
  have f0 := num_fit hf 0 (by decide)
  have f1 : 0 ≤ num L 1 ∧ num L 1 < 256 := frm_num hf 1 (by decide)
  rw [← e0] at f0
  rw [← e1] at f1
  have H2 := Lib.hid hW2
  have HH := Lib.hid hh
  have HLE := Lib.hid hlen
  have HFR := Lib.hid hf
  have K0 := Lib.hid hF
  have E0 := Lib.hid e0
  have E1 := Lib.hid e1
  have E25 := Lib.hid (And.intro e2 (And.intro e3 (And.intro e4 e5)))
  have hc := fun (W : World) (h : W.heap[w.heap.size]? = some (supO L 98)) => by rw [hLL] at h; exact sup_cells h
  have HCC := Lib.hid hc
  clear hF hh hW1 hW2 hLL hlen hf e0 e1 e2 e3 e4 e5 hc
  go_enter Tryz.func59, Tryz.ntmps59
  go_wp2_with (first
    | (go_at_call 91; rw [H2.out]; refine (K0.out _).mono ?_; rintro e w2 ⟨rfl, hb2⟩; have hbe : Below w.heap.size w w2 := hob.trans (hb2.mono hob.size)
       have hz2 : w.heap.size < w2.heap.size := Nat.lt_of_lt_of_le hsz hb2.size
       have hr2 : w2.heap[w.heap.size]? = some (supO L 98) := (hb2.block _ hsz).trans HH.out
       have hc2 := HCC.out _ hr2)
    | (go_at_call 86
       have hbm := bsl_magic w2
       have hb3 := below_box w2 (.cells #[.int .u8 97, .int .u8 115, .int .u8 104, .int .u8 108, .int .u8 97, .int .u8 114, .int .u8 32, .int .u8 49] 5 (8, 9))
       generalize w2.alloc (.cells #[.int .u8 97, .int .u8 115, .int .u8 104, .int .u8 108, .int .u8 97, .int .u8 114, .int .u8 32, .int .u8 49] 5 (8, 9)) = w3 at hbm hb3 ⊢
       refine (rput2 0 (by decide) (by decide) b E0.out f0 _ _ hbm).mono ?_
       rintro e w4 ⟨v4, rfl, hob4, hb4⟩
       have hb24 : Below w2.heap.size w2 w4 := hb3.trans (hb4.mono hb3.size)
       have hr4 : w4.heap[w.heap.size]? = some (supO L 98) := (hb24.block _ hz2).trans hr2
       have hc4 := HCC.out _ hr4)
    | (at_builtin
       refine wpList_append_byte w4 st rfl (.tmp 17) (.tmp 21) rfl w3.heap.size _ (conS L 1) rfl hob4 ⟨f1.1, by omega⟩ rfl (by rw [conS_length]; decide) hb4.size ?_
       intro v5 w5 hob5 hb5
       rw [con_state st E1.out f1] at hob5
       have hb45 : Below w2.heap.size w4 w5 := hb5.mono hb3.size
       have hb25 : Below w2.heap.size w2 w5 := hb24.trans hb45
       have hr5 : w5.heap[w.heap.size]? = some (supO L 98) := (hb25.block _ hz2).trans hr2
       have hc5 := HCC.out _ hr5))
  have hb6 := below_box w5 (.cells #[.int .i64 tg, .int .i64 cu, .int .i64 io, .int .i64 ba] 3)
  have hh6 := heap_alloc_new w5 (.cells #[.int .i64 tg, .int .i64 cu, .int .i64 io, .int .i64 ba] 3)
  generalize w5.alloc (.cells #[.int .i64 tg, .int .i64 cu, .int .i64 io, .int .i64 ba] 3) = w6 at hb6 hh6 ⊢
  obtain ⟨gi, hgi⟩ : ∃ gi, gi = w5.heap.size := ⟨_, rfl⟩
  rw [← hgi] at hh6 ⊢
  have hz5 : w.heap.size < w5.heap.size := Nat.lt_of_lt_of_le hz2 hb25.size
  have hr6 : w6.heap[w.heap.size]? = some (supO L 98) := (hb6.block _ hz5).trans hr5
  have hgl : gi < w6.heap.size := (Array.getElem?_eq_some_iff.1 hh6).1
  have hci : ∀ j, j < 4 → w6.cell? ⟨gi, j, none⟩ = some (.int .i64 (num L (2 + j))) := fun j hj => by
    have := E25.out
    rw [cell_of_row _ _ _ _ _ _ hh6]
    have h4 : j = 0 ∨ j = 1 ∨ j = 2 ∨ j = 3 := by omega
    rcases h4 with rfl | rfl | rfl | rfl
    · rw [← this.1]; rfl
    · rw [← this.2.1]; rfl
    · rw [← this.2.2.1]; rfl
    · rw [← this.2.2.2]; rfl
  have hcx := fun k hk => sup_cell hr6 k hk
  rw [HLE.out] at hcx
  have HCI := Lib.hid hci
  have HCX := Lib.hid hcx
  have HB6 := Lib.hid ((hbe.trans (hb25.mono hbe.size)).trans (hb6.mono (Nat.le_of_lt hz5)))
  have hzw : w.heap.size < w6.heap.size := Nat.lt_of_lt_of_le hz5 hb6.size
  have HM := Lib.hid (hob5.bsl.below hb6)
  clear hb6 hh6 hgi hr6 hci hcx hob5 hb5 hb45 hb25 hr5 hc5 hz5 hc4 hr4 hb24 hb4 hob4 hb3 hbm hc2 hr2 hz2 hbe hb2 hob hsz kc
  go_loopw [4, 34] (fun u i wr => ∃ j : Nat, j ≤ 4 ∧ i = .int .i64 j ∧ Hid (BSl wr u (conS L (2 + j))) ∧ Hid (Below w6.heap.size w6 wr)) (fun _ i _ => 4 - (intOf i).toNat)
  case atStart => exact ⟨0, by omega, rfl, HM, Below.refl _ _⟩
  case round =>
    obtain ⟨j, hj, rfl, HBS, HBR⟩ := hrel
    clear HM
    by_cases hlt : j < 4
    · have hx0 := num_fit HFR.out (2 + j) (by omega)
      obtain ⟨x, hx⟩ : ∃ x, x = num L (2 + j) := ⟨_, rfl⟩
      have hcx : wr.cell? ⟨gi, j, none⟩ = some (.int .i64 x) := by rw [HBR.out.cell hgl, hx]; exact HCI.out j hlt
      rw [← hx] at hx0
      have HPU := Lib.hid (rput2 (L := L) (2 + j) (by omega) (by omega) x hx hx0)
      have ej : (j : Int) < 4 := by omega
      clear hx
      go_wp2_with (go_at_call 86; refine (HPU.out _ _ HBS.out).mono ?_; rintro e w7 ⟨v7, rfl, hob7, hb7⟩)
      go_roundw
      case rel => exact ⟨j + 1, by omega, by go_num, hob7.bsl, HBR.out.trans (hb7.mono HBR.out.size)⟩
      case measure => simp [intOf]; omega
    · obtain rfl : j = 4 := by omega
      go_wp2
      obtain ⟨w8, hw8⟩ : ∃ w8, w8 = wr := ⟨_, rfl⟩
      rw [← hw8] at HBS HBR ⊢
      clear hw8
      go_loopw [4, 45] (fun u i wr => ∃ j : Nat, j ≤ 6 ∧ i = .int .i64 j ∧ Hid (BSl wr u (conS L (6 + j))) ∧ Hid (Below w6.heap.size w6 wr)) (fun _ i _ => 6 - (intOf i).toNat)
      case atStart => exact ⟨0, by omega, rfl, HBS, HBR⟩
      case round =>
        clear HBS HBR
        obtain ⟨j, hj, rfl, HBS, HBR⟩ := hrel
        by_cases hlt : j < 6
        · have hx0 := num_fit HFR.out (6 + j) (by omega)
          obtain ⟨x, hx⟩ : ∃ x, x = num L (6 + j) := ⟨_, rfl⟩
          have hcx : wr.cell? ⟨w.heap.size, 6 + j, none⟩ = some (.int .i64 x) := by rw [HBR.out.cell hzw, hx]; exact HCX.out (6 + j) (by omega)
          rw [← hx] at hx0
          have HPU := Lib.hid (rput2 (L := L) (6 + j) (by omega) (by omega) x hx hx0)
          have ej : (j : Int) < 6 := by omega
          clear hx
          go_wp2_with (go_at_call 86; refine (HPU.out _ _ HBS.out).mono ?_; rintro e w7 ⟨v7, rfl, hob7, hb7⟩)
          go_roundw
          case rel =>
            refine ⟨_, _, _, _, _, _, _, _, _, _, _, _, _, ?_, rfl⟩
            exact ⟨j + 1, by omega, by go_num, hob7.bsl, HBR.out.trans (hb7.mono HBR.out.size)⟩
          case measure => simp [intOf]; omega
        · obtain rfl : j = 6 := by omega
          have HSE := Lib.hid (rSeal_yes HBS.out (by rw [conS_length]; decide))
          go_wp2_with (go_at_call 88; refine HSE.out.mono ?_; rintro e w9 ⟨v9, rfl, hob9, hb9⟩)
          go_ret2
          have hB := HB6.out.trans (HBR.out.mono HB6.out.size)
          exact ⟨v9, rfl, hob9.more hB.size, hB.trans (hb9.mono hB.size)⟩

theorem rEnc_of {L : List Int} (hL : L.length = 12) (hT : Top L) (w : World) : Calls Tryz.prog 59 #[supV L] w (EncOut L w) := by
  have h0 : frmS L = false ∨ frmS L = true := by cases frmS L <;> simp
  have KF : ∀ B, frmS L = B → _ := fun B h => rFormS_is hL hT B h
  have hob := below_box w (supO L 98)
  obtain ⟨W1, hW1⟩ : ∃ W1, W1 = w.alloc (supO L 98) := ⟨_, rfl⟩
  rw [← hW1] at hob
  match L, hL with
  | [b, st, tg, cu, io, ba, t0, t1, t2, t3, t4, t5], _ =>
    have hW2 : w.alloc (.cells #[.int .i64 b, .int .i64 st, .int .i64 tg, .int .i64 cu, .int .i64 io, .int .i64 ba, .int .i64 t0, .int .i64 t1, .int .i64 t2, .int .i64 t3, .int .i64 t4, .int .i64 t5] 98) = W1 := by rw [hW1]; rfl
    have H2 := Lib.hid hW2
    show Calls Tryz.prog 59 #[.agg #[.int .i64 b, .int .i64 st, .int .i64 tg, .int .i64 cu, .int .i64 io, .int .i64 ba, .int .i64 t0, .int .i64 t1, .int .i64 t2, .int .i64 t3, .int .i64 t4, .int .i64 t5]] w (EncOut _ w)
    rcases h0 with h0 | h0
    · refine Calls.mono ?_ fun e w' h => .inr ⟨h0, h⟩
      have K0 : Hid (∀ w, Calls Tryz.prog 91 #[.agg #[.int .i64 b, .int .i64 st, .int .i64 tg, .int .i64 cu, .int .i64 io, .int .i64 ba, .int .i64 t0, .int .i64 t1, .int .i64 t2, .int .i64 t3, .int .i64 t4, .int .i64 t5]] w fun e w' => e = .returned (.bool false) ∧ Below w.heap.size w w') := Lib.hid (KF _ h0)
      clear KF h0 hW1 hW2 hT
      go_enter Tryz.func59, Tryz.ntmps59
      go_wp2_with (first | (go_at_call 91; rw [H2.out]; refine (K0.out _).mono ?_; rintro e w2 ⟨rfl, hb2⟩))
      go_ret2
      exact ⟨rfl, hob.trans (hb2.mono hob.size)⟩
    · refine Calls.mono ?_ fun e w' h => .inl ⟨h0, h⟩
      exact rEnc_yes b st tg cu io ba t0 t1 t2 t3 t4 t5 _ rfl h0 w (KF _ h0)
end Go.Proofs.YtkbeencjklgcnaaGreat
