/- Contract of fields: the places of an inode's fourteen numbers, and how many bytes each has. -/
import Derived.Test.YtbikbglkecbgjaaInoN
import Derived.Deep.RegionHeld3
namespace Go.Proofs.Ytbikbglkecbgjaa
open Go.RowKit
set_option linter.unusedVariables false

/-- A field's two cells. -/
def cF (x : Value × Int) : List Value := [x.1, .int .i64 x.2]
theorem cF_len (x : Value × Int) : (cF x).length = 2 := rfl
def fl7 (g j : Nat) : Value × Int := (.pointer (some ⟨g, j, none⟩), (w7 j : Int))
/-- Fourteen fields, of which the first k are laid. -/
def fldK7 (g k : Nat) : List (Value × Int) := (List.range 14).map fun j => if j < k then fl7 g j else (.pointer none, 0)
theorem fldK7_length (g k : Nat) : (fldK7 g k).length = 14 := by simp [fldK7]
theorem fldK7_set (g k : Nat) : (fldK7 g k).set k (fl7 g k) = fldK7 g (k + 1) := by
  apply List.ext_getElem (by rw [List.length_set, fldK7_length, fldK7_length])
  intro i h1 h2
  simp only [fldK7, List.getElem_set, List.getElem_map, List.getElem_range]
  by_cases e : k = i
  · subst e; rw [if_pos rfl, if_pos (by omega)]
  · rw [if_neg e]
    by_cases h : i < k
    · rw [if_pos h, if_pos (by omega)]
    · rw [if_neg h, if_neg (by omega)]
def fldC (g k : Nat) : List Value := (fldK7 g k).flatMap cF
theorem fldC_length (g k : Nat) : (fldC g k).length = 28 := by rw [fldC, flat_length (s := 2) (fun x _ => cF_len x), fldK7_length]
theorem fldC_one (g k : Nat) : ∀ v ∈ fldC g k, v.oneCell' = true := fun v hv => by
  obtain ⟨x, hx, hv⟩ := List.mem_flatMap.1 hv
  obtain ⟨j, _, rfl⟩ := List.mem_map.1 hx
  simp [cF] at hv
  rcases hv with rfl | rfl
  · split <;> rfl
  · rfl
theorem infoF7 : (Try.prog.info? 67).map (·.size) = some 2 := by kernel_rfl
theorem infoFs7 : (Try.prog.info? 68).map (·.size) = some 28 := by kernel_rfl
theorem ret_fs7 {fn : Func} {p : Tmp} (h : fn.results = #[.cell p 68]) (tmps : Array Value) (w : World) (g : Nat) (T : TypeId) (C : List Value) (hC : C.length = 28) (hp : tmps.getD p undef = .pointer (some ⟨g, 0, none⟩)) (hg : w.heap[g]? = some (.cells C.toArray T (0, 0))) :
    (results fn tmps).run Try.prog w = .ok (.agg C.toArray) w :=
  results_cell_row h tmps w g T _ (0, 0) _ hp hg Try.underlying68 rfl (by rw [infoFs7]; simp [hC])
theorem wpList_store_fs {ops : Array Oper} {rest : List Oper} {o : Oper} {a : Act} {w : World} {Q : Exit → Act → World → Prop} (hgd : o.guard = none) (x y : Operand) (ho : o.op = .store 68 x y)
    (g : Nat) (hx : a.eval x = .pointer (some ⟨g, 0, none⟩)) (C D : List Value) (hy : a.eval y = .agg C.toArray) (hC : C.length = 28) (hD : D.length = 28) (h1 : ∀ v ∈ C, v.oneCell' = true) (T : TypeId) (hg : w.heap[g]? = some (.cells D.toArray T (0, 0)))
    (h : ∀ w', Wrote w w' g → w'.heap[g]? = some (.cells C.toArray T (0, 0)) → wpList Try.prog ops Q rest (a.put o.dst undef) w') : wpList Try.prog ops Q (o :: rest) a w :=
  wpList_store_row hgd 68 x y ho g _ hx hy T _ hg (by rw [infoFs7]; simp [hC]) (by simp [hC, hD]) (all_oneCell_toArray h1) (h _ (Wrote.setRow _ _ _) (setRow_heap _ _ _ _ _ _ hg))

theorem wpList_store_f7 {ops : Array Oper} {rest : List Oper} {op : Oper} {a : Act} {w : World} {Q : Exit → Act → World → Prop} (hgd : op.guard = none) (x y : Operand) (ho : op.op = .store 67 x y)
    (b g k : Nat) (hk : k < 14) (m : Int) (hm : m = (w7 k : Int)) (hx : a.eval x = .pointer (some ⟨b, k * 2, none⟩)) (hy : a.eval y = .agg #[.pointer (some ⟨g, k, none⟩), .int .i64 m])
    (hg : w.heap[b]? = some (.cells (fldC g k).toArray 68 (0, 0)))
    (h : ∀ w', Wrote w w' b → w'.heap[b]? = some (.cells (fldC g (k + 1)).toArray 68 (0, 0)) → wpList Try.prog ops Q rest (a.put op.dst undef) w') : wpList Try.prog ops Q (op :: rest) a w := by
  subst hm
  refine wpList_store_flat (f := cF) (s := 2) hgd 67 x y ho infoF7 b k (fldK7 g k) (fl7 g k) 68 hx hy hg (by rw [fldK7_length]; exact hk) (fun x _ => cF_len x) (cF_len _) ?_ fun w' h1 h2 => h w' h1 ?_
  · intro v hv
    simp [cF, fl7] at hv
    rcases hv with rfl | rfl <;> rfl
  · rw [fldK7_set] at h2; exact h2
theorem fldC_zero (g : Nat) : fldC g 0 = [.pointer none, .int .i64 0, .pointer none, .int .i64 0, .pointer none, .int .i64 0, .pointer none, .int .i64 0, .pointer none, .int .i64 0, .pointer none, .int .i64 0, .pointer none, .int .i64 0, .pointer none, .int .i64 0, .pointer none, .int .i64 0, .pointer none, .int .i64 0, .pointer none, .int .i64 0, .pointer none, .int .i64 0, .pointer none, .int .i64 0, .pointer none, .int .i64 0] := rfl
theorem fldC_three (g : Nat) : fldC g 3 = [.pointer (some ⟨g, 0, none⟩), .int .i64 1, .pointer (some ⟨g, 1, none⟩), .int .i64 1, .pointer (some ⟨g, 2, none⟩), .int .i64 4, .pointer none, .int .i64 0, .pointer none, .int .i64 0, .pointer none, .int .i64 0, .pointer none, .int .i64 0, .pointer none, .int .i64 0, .pointer none, .int .i64 0, .pointer none, .int .i64 0, .pointer none, .int .i64 0, .pointer none, .int .i64 0, .pointer none, .int .i64 0, .pointer none, .int .i64 0] := rfl
/-- A whole row stored over another. -/
theorem setCells_whole {W : World} {g : Nat} {T : TypeId} {D C : List Value} (hg : W.heap[g]? = some (.cells D.toArray T (0, 0))) (hl : C.length = D.length) (h1 : ∀ v ∈ C, v.oneCell' = true) :
    (W.setCells g 0 C).heap[g]? = some (.cells C.toArray T (0, 0)) ∧ Wrote W (W.setCells g 0 C) g := by
  have e := setCells_row hg (o := 0) (vs := C) (by omega) h1
  rw [e, splice_whole D C hl]
  exact ⟨setRow_heap _ _ _ _ _ _ hg, Wrote.setRow _ _ _⟩
set_option maxHeartbeats 2000000 in
theorem iFields_of (w : World) (g : Nat) : Calls Try.prog 34 #[.pointer (some ⟨g, 0, none⟩)] w fun e w' => e = .returned (.agg (fldC g 14).toArray) ∧ Below w.heap.size w w' := by
  have hr0 := heap_alloc_new w (.cells (fldC g 0).toArray 68)
  have hb0 := below_box w (.cells (fldC g 0).toArray 68)
  obtain ⟨w1, hw1⟩ : ∃ w1, w1 = w.alloc (.cells (fldC g 0).toArray 68) := ⟨_, rfl⟩
  rw [← hw1] at hr0 hb0
  have hsz : w1.heap.size = w.heap.size + 1 := by rw [hw1]; simp
  rw [fldC_zero] at hw1
  have HW1 := Lib.hid hw1
  have HR0 := Lib.hid hr0
  have hr1 := heap_alloc_new w1 (.cells (fldC g 0).toArray 68)
  have hb1 := below_box w1 (.cells (fldC g 0).toArray 68)
  have hth : (w1.alloc (.cells #[.pointer none, .int .i64 0, .pointer none, .int .i64 0, .pointer none, .int .i64 0, .pointer none, .int .i64 0, .pointer none, .int .i64 0, .pointer none, .int .i64 0, .pointer none, .int .i64 0, .pointer none, .int .i64 0, .pointer none, .int .i64 0, .pointer none, .int .i64 0, .pointer none, .int .i64 0, .pointer none, .int .i64 0, .pointer none, .int .i64 0, .pointer none, .int .i64 0] 68)).drew.there w1.heap.size 0 ([.pointer (some ⟨g, 0, none⟩), .int .i64 1, .pointer (some ⟨g, 1, none⟩), .int .i64 1, .pointer (some ⟨g, 2, none⟩), .int .i64 4, .pointer none, .int .i64 0, .pointer none, .int .i64 0, .pointer none, .int .i64 0, .pointer none, .int .i64 0, .pointer none, .int .i64 0, .pointer none, .int .i64 0, .pointer none, .int .i64 0, .pointer none, .int .i64 0, .pointer none, .int .i64 0, .pointer none, .int .i64 0, .pointer none, .int .i64 0] : List Value).toArray.size := there_row (w := (w1.alloc (.cells #[.pointer none, .int .i64 0, .pointer none, .int .i64 0, .pointer none, .int .i64 0, .pointer none, .int .i64 0, .pointer none, .int .i64 0, .pointer none, .int .i64 0, .pointer none, .int .i64 0, .pointer none, .int .i64 0, .pointer none, .int .i64 0, .pointer none, .int .i64 0, .pointer none, .int .i64 0, .pointer none, .int .i64 0, .pointer none, .int .i64 0, .pointer none, .int .i64 0] 68)).drew) (t := 68) (cur := fldC g 0) hr1 (by rw [fldC_length]; exact Nat.le_refl _)
  have hone : ∀ v ∈ ([.pointer (some ⟨g, 0, none⟩), .int .i64 1, .pointer (some ⟨g, 1, none⟩), .int .i64 1, .pointer (some ⟨g, 2, none⟩), .int .i64 4, .pointer none, .int .i64 0, .pointer none, .int .i64 0, .pointer none, .int .i64 0, .pointer none, .int .i64 0, .pointer none, .int .i64 0, .pointer none, .int .i64 0, .pointer none, .int .i64 0, .pointer none, .int .i64 0, .pointer none, .int .i64 0, .pointer none, .int .i64 0, .pointer none, .int .i64 0] : List Value), v.oneCell' = true := by have := fldC_one g 3; rw [fldC_three] at this; exact this
  have hset := setCells_whole (W := (w1.alloc (.cells #[.pointer none, .int .i64 0, .pointer none, .int .i64 0, .pointer none, .int .i64 0, .pointer none, .int .i64 0, .pointer none, .int .i64 0, .pointer none, .int .i64 0, .pointer none, .int .i64 0, .pointer none, .int .i64 0, .pointer none, .int .i64 0, .pointer none, .int .i64 0, .pointer none, .int .i64 0, .pointer none, .int .i64 0, .pointer none, .int .i64 0, .pointer none, .int .i64 0] 68)).drew) (g := w1.heap.size) (T := 68) (D := fldC g 0) (C := [.pointer (some ⟨g, 0, none⟩), .int .i64 1, .pointer (some ⟨g, 1, none⟩), .int .i64 1, .pointer (some ⟨g, 2, none⟩), .int .i64 4, .pointer none, .int .i64 0, .pointer none, .int .i64 0, .pointer none, .int .i64 0, .pointer none, .int .i64 0, .pointer none, .int .i64 0, .pointer none, .int .i64 0, .pointer none, .int .i64 0, .pointer none, .int .i64 0, .pointer none, .int .i64 0, .pointer none, .int .i64 0, .pointer none, .int .i64 0]) hr1 rfl hone
  have hb12 := hb1.drew.trans (hset.2.below (Nat.le_refl _))
  have HB12 := Lib.hid (hb0.trans (hb12.mono hb0.size))
  have HBX := Lib.hid hb12
  have HR3 := Lib.hid hset.1
  have HSZ := Lib.hid hsz
  clear hw1 hr0 hset hr1 hb1 hb12 hsz
  have hinf : (Try.prog.info? 68).map (·.size) = some ([.pointer (some ⟨g, 0, none⟩), .int .i64 1, .pointer (some ⟨g, 1, none⟩), .int .i64 1, .pointer (some ⟨g, 2, none⟩), .int .i64 4, .pointer none, .int .i64 0, .pointer none, .int .i64 0, .pointer none, .int .i64 0, .pointer none, .int .i64 0, .pointer none, .int .i64 0, .pointer none, .int .i64 0, .pointer none, .int .i64 0, .pointer none, .int .i64 0, .pointer none, .int .i64 0, .pointer none, .int .i64 0, .pointer none, .int .i64 0] : List Value).toArray.size := infoFs7
  go_enter Try.func34, Try.ntmps34
  go_wp2
  rw [← HW1.out]
  go_region_held3 (fun W => True) (trivial) (fail)
  generalize (w1.alloc (.cells #[.pointer none, .int .i64 0, .pointer none, .int .i64 0, .pointer none, .int .i64 0, .pointer none, .int .i64 0, .pointer none, .int .i64 0, .pointer none, .int .i64 0, .pointer none, .int .i64 0, .pointer none, .int .i64 0, .pointer none, .int .i64 0, .pointer none, .int .i64 0, .pointer none, .int .i64 0, .pointer none, .int .i64 0, .pointer none, .int .i64 0, .pointer none, .int .i64 0] 68)).drew.setCells w1.heap.size 0 [.pointer (some ⟨g, 0, none⟩), .int .i64 1, .pointer (some ⟨g, 1, none⟩), .int .i64 1, .pointer (some ⟨g, 2, none⟩), .int .i64 4, .pointer none, .int .i64 0, .pointer none, .int .i64 0, .pointer none, .int .i64 0, .pointer none, .int .i64 0, .pointer none, .int .i64 0, .pointer none, .int .i64 0, .pointer none, .int .i64 0, .pointer none, .int .i64 0, .pointer none, .int .i64 0, .pointer none, .int .i64 0, .pointer none, .int .i64 0] = w2 at HB12 HBX HR3 ⊢
  rw [← fldC_three] at HR3
  have hr02 : w2.heap[w.heap.size]? = some (.cells (fldC g 0).toArray 68 (0, 0)) := (HBX.out.block _ (by have := HSZ.out; omega)).trans HR0.out
  have HR02 := Lib.hid hr02
  have hb2 := HB12.out
  obtain ⟨b, hb⟩ : ∃ b, b = w1.heap.size := ⟨_, rfl⟩
  have hne : w.heap.size ≠ b := by have := HSZ.out; omega
  have hle : w.heap.size ≤ b := by have := HSZ.out; omega
  rw [← hb] at HR3 ⊢
  clear hinf hth hone hr02 hb HBX HB12 HR0 HW1 HSZ hb0
  go_wp2
  go_loopw [18] (fun i wr => ∃ j : Nat, j ≤ 10 ∧ i = .int .i64 j ∧ Hid (wr.heap[b]? = some (.cells (fldC g (3 + j)).toArray 68 (0, 0))) ∧ Hid (wr.heap[w.heap.size]? = some (.cells (fldC g 0).toArray 68 (0, 0))) ∧ Below w.heap.size w wr) (fun i _ => 10 - (intOf i).toNat)
  case atStart => exact ⟨0, by omega, rfl, HR3, HR02, hb2⟩
  case round =>
    obtain ⟨j, hj, rfl, HR, HRZ, hbr⟩ := hrel
    clear HR3 HR02 hb2
    by_cases hlt : j < 10
    · have ej : (j : Int) < 10 := by omega
      have hw2 : (2 : Int) = (w7 (3 + j) : Int) := by simp [w7_two]
      have HW2 := Lib.hid hw2
      clear hw2
      go_wp2_with (with_reducible refine wpList_store_f7 rfl (.tmp 29) (.tmp 28) rfl b g (3 + j) (by omega) 2 HW2.out rfl rfl HR.out ?_; intro w4 hw4 hr4)
      go_roundw
      case rel => exact ⟨j + 1, by omega, by go_num, hr4, (hw4.2.2.2.2 _ hne).trans HRZ.out, hbr.trans (hw4.below hle)⟩
      case measure => simp [intOf]; omega
    · obtain rfl : j = 10 := by omega
      go_wp2_with (first
        | (with_reducible refine wpList_store_f7 rfl (.tmp 35) (.tmp 34) rfl b g 13 (by omega) 2 rfl rfl rfl HR.out ?_; intro w4 hw4 hr4
           have hz4 := (hw4.2.2.2.2 _ hne).trans HRZ.out)
        | (with_reducible refine wpList_load_row rfl 68 (.tmp 3) rfl b rfl 68 _ (0, 0) _ hr4 Try.underlying68 rfl (by rw [infoFs7]; simp [fldC_length]) ?_)
        | (with_reducible refine wpList_store_fs rfl (.tmp 2) (.tmp 36) rfl w.heap.size rfl (fldC g 14) (fldC g 0) rfl (fldC_length g 14) (fldC_length g 0) (fldC_one g 14) _ hz4 ?_; intro w5 hw5 hr5))
      exact bodyPost_ret (ret_fs7 rfl _ _ w.heap.size _ _ (fldC_length g 14) rfl hr5) rfl ⟨rfl, (hbr.trans (hw4.below hle)).trans (hw5.below (Nat.le_refl _))⟩
end Go.Proofs.Ytbikbglkecbgjaa
