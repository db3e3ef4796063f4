/- Slices of entries (structs of an int and a string), of either side; such of one's own; an entry appended; a string appended onto bytes of one's own. -/
import Derived.Test.YteemjhnlnjkjcaaMemF
import Derived.Test.YteemjhnlnjkjcaaDirM
namespace Go.Proofs.Yteemjhnlnjkjcaa
open Go.RowKit
set_option linter.unusedVariables false

/-- A value of type []Entry (of the code or of the reference) that reads as O. -/
def ESl (w : World) (v : Value) (O : List (Int × ByteArray)) : Prop :=
  (v = .slice none 0 0 ∧ O = []) ∨ ∃ a cap, v = .slice (some a) O.length cap ∧ ∀ j, j < O.length → a.block < w.heap.size ∧ a.spot = none ∧
    w.cell? ⟨a.block, a.off + j * 2, none⟩ = some (.int .i64 (O.getD j default).1) ∧ w.cell? ⟨a.block, a.off + j * 2 + 1, none⟩ = some (.string (O.getD j default).2)
theorem esl_nil (w : World) : ESl w (.slice none 0 0) [] := .inl ⟨rfl, rfl⟩
theorem ESl.below {w w' : World} {v : Value} {O : List (Int × ByteArray)} (h : ESl w v O) (hb : Below w.heap.size w w') : ESl w' v O := by
  rcases h with h | ⟨a, cap, hv, hc⟩
  · exact .inl h
  · refine .inr ⟨a, cap, hv, fun j hj => ?_⟩
    obtain ⟨h1, h2, h3, h4⟩ := hc j hj
    exact ⟨Nat.lt_of_lt_of_le h1 hb.size, h2, by rw [hb.cell (p := ⟨a.block, a.off + j * 2, none⟩) h1, h3], by rw [hb.cell (p := ⟨a.block, a.off + j * 2 + 1, none⟩) h1, h4]⟩
theorem ESl.open' {w : World} {v : Value} {O : List (Int × ByteArray)} (h : ESl w v O) : ∃ ao cap, v = .slice ao O.length cap ∧ (0 < O.length → ∃ b off, ao = some ⟨b, off, none⟩ ∧ b < w.heap.size ∧
    ∀ j, j < O.length → w.cell? ⟨b, off + j * 2, none⟩ = some (.int .i64 (O.getD j default).1) ∧ w.cell? ⟨b, off + j * 2 + 1, none⟩ = some (.string (O.getD j default).2)) := by
  rcases h with ⟨hv, hk⟩ | ⟨⟨b, off, spot⟩, cap, hv, hc⟩
  · exact ⟨none, 0, by rw [hv, hk]; rfl, fun h => by rw [hk] at h; simp at h⟩
  · refine ⟨_, cap, hv, fun h0 => ?_⟩
    obtain ⟨h1, h2, _⟩ := hc 0 h0
    obtain rfl : spot = none := h2
    exact ⟨b, off, rfl, h1, fun j hj => (hc j hj).2.2⟩
theorem ESl.shape {w : World} {v : Value} {O : List (Int × ByteArray)} (h : ESl w v O) : ∃ ao cap, v = .slice ao O.length cap := by
  obtain ⟨ao, cap, hv, _⟩ := h.open'
  exact ⟨ao, cap, hv⟩

/-- An entry's cells; a list's. -/
def cE (x : Int × ByteArray) : List Value := [.int .i64 x.1, .string x.2]
def entC (O : List (Int × ByteArray)) : List Value := O.flatMap cE
theorem cE_len : ∀ x : Int × ByteArray, (cE x).length = 2 := fun _ => rfl
theorem entC_length (O : List (Int × ByteArray)) : (entC O).length = O.length * 2 := flat_length fun x _ => cE_len x
theorem entC_append (O P : List (Int × ByteArray)) : entC (O ++ P) = entC O ++ entC P := List.flatMap_append
theorem entC_get (O : List (Int × ByteArray)) (j : Nat) (h : j < O.length) : (entC O)[j * 2]? = some (.int .i64 (O.getD j default).1) ∧ (entC O)[j * 2 + 1]? = some (.string (O.getD j default).2) := by
  have hg := flat_get (f := cE) (s := 2) (L := O) (fun x _ => cE_len x) j h
  have e : O.getD j default = O[j] := by simp [List.getD_eq_getElem?_getD, h]
  rw [e]
  have h0 := congrArg (fun z => z[0]?) hg
  have h1 := congrArg (fun z => z[1]?) hg
  simp only [List.getElem?_take, List.getElem?_drop, Nat.add_zero] at h0 h1
  rw [if_pos (by omega)] at h0 h1
  exact ⟨h0, h1⟩
/-- A []Entry of one's own, from block B on, that reads as O. -/
def ER (w : World) (B : Nat) (T : TypeId) (v : Value) (O : List (Int × ByteArray)) : Prop := w.ownsRow B T 2 v O.length (entC O)
theorem er_nil (w : World) (B : Nat) (T : TypeId) : ER w B T (.slice none 0 0) [] := World.ownsRow_nil w B _ _
theorem ER.sl {w : World} {B : Nat} {T : TypeId} {v : Value} {O : List (Int × ByteArray)} (h : ER w B T v O) : ESl w v O := by
  rcases h.2 with ⟨hv, hl⟩ | ⟨g, cap, cur, hv, hg, hh, hnc, hcm, hcs, ht⟩
  · exact .inl ⟨hv, List.eq_nil_of_length_eq_zero hl⟩
  · refine .inr ⟨_, cap, hv, fun j hj => ⟨(Array.getElem?_eq_some_iff.1 hh).1, rfl, ?_⟩⟩
    obtain ⟨h1, h2⟩ := entC_get O j hj
    rw [← ht, List.getElem?_take] at h1 h2
    rw [if_pos (by omega)] at h1 h2
    rw [Nat.zero_add, cell_of_row _ _ _ _ _ _ hh, cell_of_row _ _ _ _ _ _ hh]
    exact ⟨by simpa using h1, by simpa using h2⟩
theorem ER.below {w w' : World} {B : Nat} {T : TypeId} {v : Value} {O : List (Int × ByteArray)} (h : ER w B T v O) (hb : Below w.heap.size w w') : ER w' B T v O := by
  refine ⟨h.1, ?_⟩
  rcases h.2 with h | ⟨g, cap, cur, hv, hg, hh, r⟩
  · exact .inl h
  · exact .inr ⟨g, cap, cur, hv, hg, by rw [hb.block g (Array.getElem?_eq_some_iff.1 hh).1]; exact hh, r⟩

theorem infoE : (Try.prog.info? 33).map (fun i => (i.zero, i.size, i.bytes)) = some (some (.agg #[.int .i64 0, .string ByteArray.empty]), 2, 24) := by kernel_rfl
theorem infoRE : (Try.prog.info? 34).map (fun i => (i.zero, i.size, i.bytes)) = some (some (.agg #[.int .i64 0, .string ByteArray.empty]), 2, 24) := by kernel_rfl
/-- append of one entry onto entries of one's own (its cells lie in the block that was made last). -/
theorem wpList_append_ent (w1 : World) (i : Int) (n : ByteArray) {ops : Array Oper} {rest : List Oper} {o : Oper} {a : Act} {Q : Exit → Act → World → Prop} (hgd : o.guard = none) (S T : TypeId) (s y : Operand)
    (ho : o.op = .call { callee := .builtin .append, args := #[s, y], argTypes := #[S, S] })
    (hu : Try.prog.underlying S = some (.slice T)) (hi : (Try.prog.info? T).map (fun i => (i.zero, i.size, i.bytes)) = some (some (.agg #[.int .i64 0, .string ByteArray.empty]), 2, 24))
    (B : Nat) (v : Value) (O : List (Int × ByteArray)) (hs : a.eval s = v) (hown : ER w1 B T v O) (hO : O.length ≤ 1000000) (hy : a.eval y = .slice (some ⟨w1.heap.size, 0, none⟩) 1 1) (hB : B ≤ w1.heap.size)
    (h : ∀ v' w', ER w' B T v' (O ++ [(i, n)]) → Below B w1 w' → wpList Try.prog ops Q rest (a.put o.dst v') w') : wpList Try.prog ops Q (o :: rest) a (w1.alloc (.cells #[.int .i64 i, .string n] T)) := by
  obtain ⟨t, h2, h3, h4, h5⟩ := info_parts hi
  have hbel : Below w1.heap.size w1 (w1.alloc (.cells #[.int .i64 i, .string n] T)) := below_box _ _
  have hnew : (w1.alloc (.cells #[.int .i64 i, .string n] T)).heap[w1.heap.size]? = some (.cells #[.int .i64 i, .string n] T (0, 0)) := heap_alloc_new w1 _
  have hf := hown.below hbel
  refine wpList_append_own _ hgd s y S ho B T t _ 2 24 hu h2 h3 h4 h5 rfl (by decide) v O.length _ hs hf ⟨w1.heap.size, 0, none⟩ 1 1 [.int .i64 i, .string n] hy rfl ?_ ?_ (by simp only [maxLen]; omega) (by omega) (by simp; omega) fun v' w' h6 h7 _ => ?_
  · intro m u hm
    have hm2 : m < 2 := by simpa using (List.getElem?_eq_some_iff.1 hm).1
    rw [Addr.add_lit, Nat.zero_add, cell_of_row _ _ _ _ _ _ hnew, ← hm]
    have : m = 0 ∨ m = 1 := by omega
    rcases this with rfl | rfl <;> rfl
  · intro u hu
    simp at hu
    rcases hu with rfl | rfl <;> rfl
  · refine h v' w' ?_ ((hbel.mono hB).trans ((Below.refl _ _).grown h7 (by simp; omega) fun k hk => (World.ownsRow.lt hf k hk).1))
    show w'.ownsRow B T 2 v' (O ++ [(i, n)]).length (entC (O ++ [(i, n)]))
    rw [List.length_append, entC_append]; exact h6
/-- append(b, s...), s a string, onto a []byte of one's own. -/
theorem wpList_append_str (w : World) {ops : Array Oper} {rest : List Oper} {o : Oper} {a : Act} {Q : Exit → Act → World → Prop} (hgd : o.guard = none) (s x : Operand)
    (ho : o.op = .call { callee := .builtin .append, args := #[s, x], argTypes := #[24, 9] })
    (B : Nat) (v : Value) (l : List Int) (hs : a.eval s = v) (hown : OB w B v l) (n : ByteArray) (hx : a.eval x = .string n) (hlen : l.length + n.size ≤ 1000000) (hB : B ≤ w.heap.size)
    (h : ∀ v' w', OB w' B v' (l ++ strB n) → Below B w w' → wpList Try.prog ops Q rest (a.put o.dst v') w') : wpList Try.prog ops Q (o :: rest) a w := by
  obtain ⟨i, h2, h3, h4, h5⟩ := info_parts infoU8
  refine Lib.wpList_append_own_string w hgd s x 24 9 ho B 5 i Try.underlying24 Try.underlying9 h2 h3 h4 h5 v l.length _ hs hown.2 n hx (by simp only [maxLen]; omega) (by omega) hB fun v' w' h6 h7 _ => ?_
  refine h v' w' ⟨byt_append hown.1 (strB_byt n), ?_⟩ ((Below.refl _ _).grown h7 hB fun k hk => (hown.2.lt k hk).1)
  rw [List.length_append, List.map_append, strB_length, ← strB_cells]; exact h6
end Go.Proofs.Yteemjhnlnjkjcaa
