/- Contract of fields: the places of a superblock's twelve numbers, and how many bytes each has. -/
import Derived.Test.YtnpniackcdcooaaSupT
import Derived.StillTailTactics
import Derived.Great.BuildSlice
namespace Go.Proofs.Ytnpniackcdcooaa
open Go.RowKit
set_option linter.unusedVariables false

/-- The cells of the first n fields of the superblock in block g. -/
def fldL (g n : Nat) : List Value := (List.range n).flatMap fun i => [.pointer (some ⟨g, i, none⟩), .int .i64 (wid i : Int)]
theorem fldL_succ (g n : Nat) : fldL g (n + 1) = fldL g n ++ [.pointer (some ⟨g, n, none⟩), .int .i64 (wid n : Int)] := by
  simp [fldL, List.range_succ]
theorem fldL_length (g n : Nat) : (fldL g n).length = n * 2 := by
  induction n with
  | zero => rfl
  | succ n ih => rw [fldL_succ, List.length_append, ih]; simp; omega
theorem fldL_get (g : Nat) : ∀ n i, i < n → (fldL g n)[i * 2]? = some (.pointer (some ⟨g, i, none⟩)) ∧ (fldL g n)[i * 2 + 1]? = some (.int .i64 (wid i : Int))
  | 0, i, h => absurd h (Nat.not_lt_zero _)
  | n + 1, i, h => by
    have hl := fldL_length g n
    rw [fldL_succ]
    by_cases e : i < n
    · have := fldL_get g n i e
      rw [List.getElem?_append_left (by omega), List.getElem?_append_left (by omega)]; exact this
    · obtain rfl : i = n := by omega
      rw [List.getElem?_append_right (by omega), List.getElem?_append_right (by omega), hl]
      exact ⟨by simp, by rw [show i * 2 + 1 - i * 2 = 1 by omega]; rfl⟩
theorem infoF5 : (Try.prog.info? 52).map (fun i => (i.zero, i.size, i.bytes)) = some (some (.agg #[.pointer none, .int .i64 0]), 2, 16) := by kernel_rfl

def Fld (w : World) (B g : Nat) (v : Value) (n : Nat) : Prop := w.ownsRow B 52 2 v n (fldL g n)

theorem Fld.below {w w' : World} {B g : Nat} {v : Value} {n : Nat} (h : Fld w B g v n) (hb : Below w.heap.size w w') : Fld w' B g v n := by
  refine ⟨h.1, ?_⟩
  rcases h.2 with h | ⟨k, cap, cur, hv, hg, hh, r⟩
  · exact .inl h
  · exact .inr ⟨k, cap, cur, hv, hg, by rw [hb.block k (Array.getElem?_eq_some_iff.1 hh).1]; exact hh, r⟩
/-- append of one field onto the fields (its cells lie in the block that was made last). -/
theorem wpList_append_fld (w1 : World) (g n : Nat) (hn : 6 ≤ n) (hn2 : n < 12) {ops : Array Oper} {rest : List Oper} {o : Oper} {a : Act} {Q : Exit → Act → World → Prop} (hgd : o.guard = none) (s y : Operand)
    (ho : o.op = .call { callee := .builtin .append, args := #[s, y], argTypes := #[47, 47] })
    (B : Nat) (v : Value) (hs : a.eval s = v) (hown : Fld w1 B g v n) (hy : a.eval y = .slice (some ⟨w1.heap.size, 0, none⟩) 1 1) (hB : B ≤ w1.heap.size)
    (h : ∀ v' w', Fld w' B g v' (n + 1) → Below B w1 w' → wpList Try.prog ops Q rest (a.put o.dst v') w') : wpList Try.prog ops Q (o :: rest) a (w1.alloc (.cells #[.pointer (some ⟨g, n, none⟩), .int .i64 2] 52)) := by
  obtain ⟨i, h2, h3, h4, h5⟩ := info_parts infoF5
  have hbel : Below w1.heap.size w1 (w1.alloc (.cells #[.pointer (some ⟨g, n, none⟩), .int .i64 2] 52)) := below_box _ _
  have hnew : (w1.alloc (.cells #[.pointer (some ⟨g, n, none⟩), .int .i64 2] 52)).heap[w1.heap.size]? = some (.cells #[.pointer (some ⟨g, n, none⟩), .int .i64 2] 52 (0, 0)) := heap_alloc_new w1 _
  have hw2 : wid n = 2 := if_neg (by omega)
  have hf := hown.below hbel
  refine wpList_append_own _ hgd s y 47 ho B 52 i _ 2 16 Try.underlying47 h2 h3 h4 h5 rfl (by decide) v n _ hs hf ⟨w1.heap.size, 0, none⟩ 1 1 [.pointer (some ⟨g, n, none⟩), .int .i64 2] hy rfl ?_ ?_ (by simp only [maxLen]; omega) (by omega) (by simp; omega) fun v' w' h6 h7 _ => ?_
  · intro j u hj
    have hj2 : j < 2 := by simpa using (List.getElem?_eq_some_iff.1 hj).1
    rw [Addr.add_lit, Nat.zero_add, cell_of_row _ _ _ _ _ _ hnew, ← hj]
    have : j = 0 ∨ j = 1 := by omega
    rcases this with rfl | rfl <;> rfl
  · intro u hu
    simp at hu
    rcases hu with rfl | rfl <;> rfl
  · refine h v' w' ?_ ((hbel.mono hB).trans ((Below.refl _ _).grown h7 (by simp; omega) fun k hk => (World.ownsRow.lt hf k hk).1))
    rw [Fld, fldL_succ, hw2]; exact h6

set_option maxHeartbeats 1000000 in
theorem sFields_of (w : World) (g : Nat) : Calls Try.prog 17 #[.pointer (some ⟨g, 0, none⟩)] w fun e w' => ∃ v, e = .returned v ∧ Fld w' w.heap.size g v 12 ∧ Below w.heap.size w w' := by
  go_enter Try.func17, Try.ntmps17
  go_wp2
  go_still_tail 24, (by kernel_rfl)
  go_wp2
  have h6 : fldL g 6 = [.pointer (some ⟨g, 0, none⟩), .int .i64 2, .pointer (some ⟨g, 1, none⟩), .int .i64 1, .pointer (some ⟨g, 2, none⟩), .int .i64 2, .pointer (some ⟨g, 3, none⟩), .int .i64 2, .pointer (some ⟨g, 4, none⟩), .int .i64 2, .pointer (some ⟨g, 5, none⟩), .int .i64 2] := rfl
  rw [show (#[Value.pointer (some ⟨g, 0, none⟩), .int .i64 2, .pointer (some ⟨g, 1, none⟩), .int .i64 1, .pointer (some ⟨g, 2, none⟩), .int .i64 2, .pointer (some ⟨g, 3, none⟩), .int .i64 2, .pointer (some ⟨g, 4, none⟩), .int .i64 2, .pointer (some ⟨g, 5, none⟩), .int .i64 2] : Array Value) = (fldL g 6).toArray from rfl]
  have hh := heap_alloc_new w (.cells (fldL g 6).toArray 52)
  have hb := below_box w (.cells (fldL g 6).toArray 52)
  obtain ⟨W1, hW1⟩ : ∃ W1, W1 = (w.alloc (.cells (fldL g 6).toArray 52)).drew := ⟨_, rfl⟩
  have hb1 : Below w.heap.size w W1 := by rw [hW1]; exact below_drewN' hb 1
  have hf1 : Fld W1 w.heap.size g (.slice (some ⟨w.heap.size, 0, none⟩) 6 6) 6 := by
    refine ⟨fldL_length g 6, .inr ⟨w.heap.size, 6, _, rfl, Nat.le_refl _, by rw [hW1]; exact hh, Nat.le_refl _, by decide, by simp [fldL_length], ?_⟩⟩
    have := fldL_length g 6
    rw [List.take_of_length_le (by simp [this])]
  rw [← hW1]
  clear hh hb hW1 h6
  go_loopw [3, 30] (fun u i wr => ∃ j : Nat, j ≤ 6 ∧ i = .int .i64 j ∧ Hid (Fld wr w.heap.size g u (6 + j)) ∧ Below w.heap.size w wr) (fun _ i _ => 6 - (intOf i).toNat)
  case atStart => exact ⟨0, by omega, rfl, hf1, hb1⟩
  case round =>
    obtain ⟨j, hj, rfl, HF, hbr⟩ := hrel
    clear hf1 hb1
    by_cases hlt : j < 6
    · have ej : (j : Int) < 6 := by omega
      go_wp2_with (at_builtin; refine wpList_append_fld wr g (6 + j) (by omega) (by omega) rfl _ _ rfl w.heap.size _ rfl HF.out rfl hbr.size ?_; intro v2 w2 hf2 hb2)
      go_roundw
      case rel => exact ⟨j + 1, by omega, by go_num, hf2, hbr.trans hb2⟩
      case measure => simp [intOf]; omega
    · go_wp2
      go_ret
      obtain rfl : j = 6 := by omega
      exact ⟨_, rfl, HF.out, hbr⟩
theorem Fld.shape {w : World} {B g : Nat} {v : Value} {n : Nat} (h : Fld w B g v n) (hn : 0 < n) : ∃ gf cap, v = .slice (some ⟨gf, 0, none⟩) n cap ∧ gf < w.heap.size ∧ B ≤ gf ∧ n ≤ cap ∧
    ∀ j, j < n → w.cell? ⟨gf, j * 2, none⟩ = some (.pointer (some ⟨g, j, none⟩)) ∧ w.cell? ⟨gf, j * 2 + 1, none⟩ = some (.int .i64 (wid j : Int)) := by
  rcases h.2 with ⟨_, h0⟩ | ⟨gf, cap, cur, hv, hg, hh, hnc, hm, hs, ht⟩
  · omega
  · refine ⟨gf, cap, hv, (Array.getElem?_eq_some_iff.1 hh).1, hg, hnc, fun j hj => ?_⟩
    obtain ⟨h1, h2⟩ := fldL_get g n j hj
    rw [← ht] at h1 h2
    rw [cell_of_row _ _ _ _ _ _ hh, cell_of_row _ _ _ _ _ _ hh]
    rw [List.getElem?_take] at h1 h2
    rw [if_pos (by omega)] at h1 h2
    exact ⟨by simpa using h1, by simpa using h2⟩
theorem wid_le (j : Nat) : 1 ≤ wid j ∧ wid j ≤ 2 := by unfold wid; split <;> omega
end Go.Proofs.Ytnpniackcdcooaa
