/- Rows of elements of one size, laid flat; a stretch of cells stored into a row that is known whole. -/
import Derived.Test.YtmjndpmpeidhaaaMem
import Derived.Deep.MidRow
import Derived.Deep.WholeRow
namespace Go.Proofs.Ytmjndpmpeidhaaa
open Go.RowKit
set_option linter.unusedVariables false

section
variable {α : Type} {f : α → List Value} {s : Nat}
theorem flat_length : ∀ {L : List α}, (∀ x ∈ L, (f x).length = s) → (L.flatMap f).length = L.length * s
  | [], _ => by simp
  | x :: L, h => by
    rw [List.flatMap_cons, List.length_append, flat_length (fun z hz => h z (List.mem_cons_of_mem _ hz)), h x (by simp), List.length_cons, Nat.succ_mul]; omega
theorem flat_get : ∀ {L : List α}, (∀ x ∈ L, (f x).length = s) → ∀ (i : Nat) (hi : i < L.length), ((L.flatMap f).drop (i * s)).take s = f L[i]
  | [], _, i, hi => by simp at hi
  | x :: L, h, 0, _ => by
    rw [List.flatMap_cons, Nat.zero_mul, List.drop_zero, List.take_append_of_le_length (by rw [h x (by simp)]; exact Nat.le_refl _), ← h x (by simp), List.take_length]; rfl
  | x :: L, h, i + 1, hi => by
    have hx := h x (by simp)
    rw [List.flatMap_cons, show (i + 1) * s = (f x).length + i * s by rw [hx, Nat.succ_mul]; omega, List.drop_length_add_append]
    exact flat_get (fun z hz => h z (List.mem_cons_of_mem _ hz)) i (by simpa using hi)
theorem flat_set : ∀ {L : List α}, (∀ x ∈ L, (f x).length = s) → ∀ (i : Nat) (hi : i < L.length) (y : α), (f y).length = s → splice (L.flatMap f) (i * s) (f y) = (L.set i y).flatMap f
  | [], _, i, hi, _, _ => by simp at hi
  | x :: L, h, 0, _, y, hy => by
    have hx := h x (by simp)
    simp only [splice, Nat.zero_mul, List.take_zero, List.nil_append, Nat.zero_add, List.set_cons_zero, List.flatMap_cons]
    rw [hy, ← hx, List.drop_left]
  | x :: L, h, i + 1, hi, y, hy => by
    have hx := h x (by simp)
    have ih := flat_set (fun z hz => h z (List.mem_cons_of_mem _ hz)) i (by simpa using hi) y hy
    rw [List.set_cons_succ, List.flatMap_cons, List.flatMap_cons, ← ih]
    simp only [splice]
    rw [show (i + 1) * s = (f x).length + i * s by rw [hx, Nat.succ_mul]; omega, List.take_length_add_append, Nat.add_assoc, List.drop_length_add_append, List.append_assoc]
end

/-- A store of many cells into a row that is known whole. -/
theorem setCells_row {w : World} {g o : Nat} {t : TypeId} {vs cur : List Value} (hg : w.heap[g]? = some (.cells cur.toArray t (0, 0))) (hl : o + vs.length ≤ cur.length) (h1 : ∀ v ∈ vs, v.oneCell' = true) :
    w.setCells g o vs = w.setRow g (splice cur o vs).toArray := by
  have a := run_storeCells_cells (P := Try.prog) g o vs 0 w
    (fun j hj => by rw [cell_of_row _ _ _ _ _ _ hg]; simp; omega)
    (fun j hj => by simp [World.frozen?, hg]) h1
  have b := run_storeCells_at Try.prog g o t vs 0 cur.toArray w hg (by simpa using hl) h1
  rw [a] at b
  injection b with _ b
  simpa [splice] using b
theorem there_row {w : World} {g o n : Nat} {t : TypeId} {cur : List Value} (hg : w.heap[g]? = some (.cells cur.toArray t (0, 0))) (hl : o + n ≤ cur.length) : w.there g o n := fun j hj => by
  refine ⟨by rw [cell_of_row _ _ _ _ _ _ hg]; simp; omega, by simp [World.frozen?, hg]⟩
theorem range_row {w : World} {g o : Nat} {t : TypeId} {vs cur : List Value} (hg : w.heap[g]? = some (.cells cur.toArray t (0, 0))) (h : (cur.drop o).take vs.length = vs) : w.rangeAt g o vs := fun j v hv => by
  rw [cell_of_row _ _ _ _ _ _ hg]
  have hj := (List.getElem?_eq_some_iff.1 hv).1
  rw [← h, List.getElem?_take, if_pos hj, List.getElem?_drop] at hv
  simpa using hv

end Go.Proofs.Ytmjndpmpeidhaaa
