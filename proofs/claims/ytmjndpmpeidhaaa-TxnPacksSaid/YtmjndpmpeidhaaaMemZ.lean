/- append of zeros ('append(s, make([]byte, n)...)') onto a []byte of one's own. -/
import Derived.Test.YtmjndpmpeidhaaaMem
namespace Go.Proofs.Ytmjndpmpeidhaaa
open Go.RowKit

theorem zeroCells_u8 (m : Nat) : Builtin.zeroCells (Value.int .u8 0).cells m = Array.replicate m (.int .u8 0) := by
  apply Array.ext
  · simp [Builtin.zeroCells, Value.cells]
  · intro j h1 h2
    simp [Builtin.zeroCells, Value.cells, Nat.mod_one]

theorem wrap_zero : IntKind.i64.wrap 0 = 0 := by decide
theorem run_append_zeros (w : World) (B : Nat) (ty : TypeId) (v : Value) (n : Nat) (xs : List Value) (hown : w.ownsRow B 5 1 v n xs) (m : Nat) (hlen : n + m ≤ 140737488355328) (hB : B ≤ w.heap.size) :
    ∃ v' w', (Builtin.append_ #[40, 3] ty #[v, .int .i64 m]).run Try.prog w = .ok v' w' ∧ w'.ownsRow B 5 1 v' (n + m) (xs ++ List.replicate m (.int .u8 0)) ∧ w.grownBy w' v.ownBlock := by
  obtain ⟨i, h2, h3, h4, h5⟩ := info_parts infoU8
  have hxl : xs.length = n := by simpa using hown.1
  have hm1 : IntKind.i64.wrap (m : Int) = m := by rw [IntKind.wrap_i64]; omega
  have hm2 : ¬ (m : Int) < 0 := by omega
  have hm3 : ¬ 281474976710656 < (m : Int) := by omega
  have hlen2 : (xs ++ List.replicate m (Value.int .u8 0)).length = (n + m) * 1 := by simp [hxl]
  have grown : ∀ (old : Nat), old < n + m → ∀ (row : Option Nat),
      (w.drew.alloc (.cells (xs.toArray ++ Array.replicate m (.int .u8 0) ++ Array.replicate (grownCap w (n + m) old 5 - (n + m)) (.int .u8 0)) 5)).ownsRow B 5 1
        (.slice (some ⟨w.heap.size, 0, none⟩) (n + m) (grownCap w (n + m) old 5)) (n + m) (xs ++ List.replicate m (.int .u8 0)) ∧
      w.grownBy (w.drew.alloc (.cells (xs.toArray ++ Array.replicate m (.int .u8 0) ++ Array.replicate (grownCap w (n + m) old 5 - (n + m)) (.int .u8 0)) 5)) row := by
    intro old ho row
    have hge := grownCap_ge w (n + m) old 5
    have hcm : grownCap w (n + m) old 5 ≤ maxLen := grownCap_le_maxLen w (n + m) old 5 (by simp only [maxLen]; omega)
    refine ⟨⟨hlen2, .inr ⟨w.heap.size, _, _, rfl, hB, heap_alloc_new w.drew _, hge, hcm, ?_, ?_⟩⟩, ⟨rfl, rfl, rfl, by simp, fun k hk _ => Go.heap_alloc_old w.drew _ hk⟩⟩
    · simp [hxl]; omega
    · simp only [Array.toList_append, Array.toList_replicate]
      rw [← hlen2, List.take_left']
      · rfl
  have hz : (if m = 0 then (pure #[] : Sem (Array Value)) else pure (Builtin.zeroCells (Value.int .u8 0).cells m)) = pure (Array.replicate m (.int .u8 0)) := by
    by_cases h0 : m = 0
    · subst h0; simp
    · rw [if_neg h0, zeroCells_u8]
  rcases hown.2 with ⟨rfl, rfl⟩ | ⟨g, cap, cur, rfl, hbg, hg, hnc, hcm, hcs, htake⟩
  · obtain rfl : xs = [] := List.eq_nil_of_length_eq_zero hxl
    by_cases hm : m = 0
    · subst hm
      refine ⟨.slice none 0 0, w, ?_, World.ownsRow_nil w B 5 1, ⟨rfl, rfl, rfl, Nat.le_refl _, fun _ _ _ => rfl⟩⟩
      simp [Builtin.append_, run_underlying Try.underlying40, run_underlying Try.underlying3, sizeOf, typeInfo, h2, h4, h5, asInt, asIntOf, wrap_zero]
    · have hgr := grown 0 (by omega) (Value.ownBlock (.slice none 0 0))
      have h48 : ¬ (281474976710656 < Builtin.nextslicecap m 0 * 1) := by rw [nextslicecap_zero (by omega)]; omega
      simp only [Nat.zero_add, List.nil_append] at hgr ⊢
      refine ⟨_, _, ?_, hgr.1, hgr.2⟩
      have hc1 : ¬ 9223372036854775807 < (m : Int) := by omega
      simp only [Nat.mul_one] at h48
      simp [Builtin.append_, run_underlying Try.underlying40, run_underlying Try.underlying3, sizeOf, typeInfo, zeroValue, h2, h3, h4, h5, asInt, asIntOf, hm1, hm2, hm3, hm, hc1, h48, Question.forced, run_firstCells_none, newRow, grownCap]
      simp [zeroCells_u8]
  · by_cases hroom : n + m ≤ cap
    · have hst := run_storeCells_at Try.prog g n 5 (List.replicate m (Value.int .u8 0)) 0 cur w hg (by simp; omega) (fun u hu => by rw [List.eq_of_mem_replicate hu]; rfl)
      refine ⟨_, w.setRow g (cur.toList.take n ++ List.replicate m (Value.int .u8 0) ++ cur.toList.drop (n + m)).toArray, ?_, ⟨hlen2, .inr ⟨g, cap, _, rfl, hbg, setRow_heap w g cur _ 5 _ hg, hroom, hcm, ?_, ?_⟩⟩, ⟨rfl, rfl, rfl, by simp, fun k _ hk => setRow_other w g k _ (fun e => hk (by simp [Value.ownBlock, e]))⟩⟩
      · by_cases hm : m = 0
        · subst hm
          simp [Builtin.append_, run_underlying Try.underlying40, run_underlying Try.underlying3, sizeOf, typeInfo, h2, h4, h5, asInt, asIntOf, wrap_zero, hnc, storeCells]
          exact (setRow_self w g cur 5 (0, 0) hg).symm
        · simp [Builtin.append_, run_underlying Try.underlying40, run_underlying Try.underlying3, sizeOf, typeInfo, zeroValue, h2, h3, h4, h5, asInt, asIntOf, hm1, hm2, hm3, hm, hroom]
          rw [zeroCells_u8, Array.toList_replicate, Addr.add_lit, Nat.zero_add, hst]
          simp
      · simp; omega
      · have ht : cur.toList.take n = xs := by simpa using htake
        rw [ht, ← hlen2, List.take_left' rfl]
    · have hgr := grown cap (by omega) (Value.ownBlock (.slice (some ⟨g, 0, none⟩) n cap))
      refine ⟨_, _, ?_, hgr.1, hgr.2⟩
      have hn : ¬ (n + m ≤ cap) := hroom
      have hm0 : m ≠ 0 := by omega
      have h63' : ¬ (9223372036854775807 < ((n : Int) + (m : Int))) := by omega
      have h48 := growslice_fits (bytes := 1) (show cap < n + m by omega) (by omega)
      have h48' : ¬ (281474976710656 < Builtin.nextslicecap (n + m) cap) := by omega
      have hfo := run_firstCells_some (P := Try.prog) w.drew 1 n ⟨g, 0, none⟩ n cap xs (by simpa using hxl) (by
        have hc : w.ownsRow B 5 1 (.slice (some ⟨g, 0, none⟩) n cap) n xs := hown
        exact hc.cells (g := g) rfl)
      simp [Builtin.append_, run_underlying Try.underlying40, run_underlying Try.underlying3, sizeOf, typeInfo, zeroValue, h2, h3, h4, h5, asInt, asIntOf, hm1, hm2, hm3, hm0, hn, h63', h48', Question.forced, hfo, newRow, grownCap, zeroCells_u8]

/-- append(s, make([]byte, m)...). -/
theorem wpList_append_zeros (w : World) {ops : Array Oper} {rest : List Oper} {o : Oper} {a : Act} {Q : Exit → Act → World → Prop} (hgd : o.guard = none) (s x : Operand)
    (ho : o.op = .call { callee := .builtin .append, args := #[s, x], argTypes := #[40, 3] })
    (B : Nat) (v : Value) (l : List Int) (hs : a.eval s = v) (hown : OB w B v l) (C : Int) (m : Nat) (hx : a.eval x = .int .i64 C) (hC : C = m) (hlen : l.length + m ≤ 140737488355328) (hB : B ≤ w.heap.size)
    (h : ∀ v' w', OB w' B v' (l ++ List.replicate m 0) → Below B w w' → wpList Try.prog ops Q rest (a.put o.dst v') w') : wpList Try.prog ops Q (o :: rest) a w := by
  subst hC
  obtain ⟨v', w', hr, h2, h3⟩ := run_append_zeros w B o.type v l.length _ hown.2 m hlen hB
  refine wpList_plain hgd fun K hK => ?_
  unfold Oper.wp execOp
  simp only [ho, resolve, invoke, builtin, Sem.run_bind, Sem.run_pure, Result.andThen_ok, List.map_toArray, List.map_cons, List.map_nil, hs, hx, hr]
  refine hK _ _ (h v' w' ⟨byt_append hown.1 (byt_replicate m), ?_⟩ ((Below.refl _ _).grown h3 hB fun k hk => (hown.2.lt k hk).1))
  simpa using h2

end Go.Proofs.Ytmjndpmpeidhaaa
