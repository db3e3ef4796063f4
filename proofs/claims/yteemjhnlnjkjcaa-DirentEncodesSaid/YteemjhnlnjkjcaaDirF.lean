/- Contracts of package dirent: read, readAll, Decode. -/
import Derived.Test.YteemjhnlnjkjcaaDirE
import Derived.Laws.ResultCell
import Derived.Laws.Tables
import Derived.Laws.Rows
namespace Go.Proofs.Yteemjhnlnjkjcaa
open Go.RowKit
set_option linter.unusedVariables false

theorem sizeE : (Try.prog.info? 33).map (·.size) = some 2 := by kernel_rfl
theorem sizeRE : (Try.prog.info? 34).map (·.size) = some 2 := by kernel_rfl
/-- An entry into a variable; as a result. -/
theorem wpList_store_e2 {ops : Array Oper} {rest : List Oper} {o : Oper} {a : Act} {w : World} {Q : Exit → Act → World → Prop} (hgd : o.guard = none) (ty : TypeId) (hi : (Try.prog.info? ty).map (·.size) = some 2) (x y : Operand) (ho : o.op = .store ty x y)
    (g : Nat) (hx : a.eval x = .pointer (some ⟨g, 0, none⟩)) (p q p' q' : Value) (hy : a.eval y = .agg #[p, q]) (hp : p.oneCell' = true) (hq : q.oneCell' = true) (T : TypeId) (hg : w.heap[g]? = some (.cells #[p', q'] T (0, 0)))
    (h : ∀ w', Wrote w w' g → w'.heap[g]? = some (.cells #[p, q] T (0, 0)) → wpList Try.prog ops Q rest (a.put o.dst undef) w') : wpList Try.prog ops Q (o :: rest) a w :=
  wpList_store_row hgd ty x y ho g #[p, q] hx hy T _ hg hi rfl (by simp [hp, hq]) (h _ (Wrote.setRow _ _ _) (setRow_heap _ _ _ _ _ _ hg))
theorem ret_cell_e2 {fn : Func} {p u : Tmp} {ty : TypeId} {fs} (h : fn.results = #[.cell p ty, .tmp u]) (hu : Try.prog.underlying ty = some (.struct fs)) (hi : (Try.prog.info? ty).map (·.size) = some 2)
    (tmps : Array Value) (w : World) (g : Nat) (T : TypeId) (a b x : Value) (hp : tmps.getD p undef = .pointer (some ⟨g, 0, none⟩)) (hg : w.heap[g]? = some (.cells #[a, b] T (0, 0))) (hx : tmps.getD u undef = x) :
    (results fn tmps).run Try.prog w = .ok (.tuple #[.agg #[a, b], x]) w := by
  rw [results_cell_tmp h, hp, hx]
  simp only [asAddr, Sem.run_pure, Result.andThen_ok]
  rw [run_loadVar_row w g T ty _ (0, 0) _ hg hu rfl (by rw [hi]; rfl)]
  rfl
/-- Get at a place and width that fit. -/
theorem pGetW8 {w : World} {v : Value} {c : List Int} (hs : BSl w v c) (hc : c.length ≤ 100000) (a k : Nat) (A K : Int) (hA : A = a) (hK : K = k) (hk1 : 1 ≤ k) (hk : k ≤ 8) (ha : a + k ≤ c.length) (y : Int) (hy : y = getV c a k) :
    Calls Try.prog 31 #[v, .int .i64 A, .int .i64 K] w fun e w' => e = .returned (.tuple #[.int .u64 y, .bool true]) ∧ w = w' := by
  subst hA hK
  have hg := pGet_any hs (by omega) (a : Int) k (by omega) (by omega)
  have hn : getN c (a : Int) k = y := by unfold getN; rw [if_pos (by omega), hy]; rfl
  have hb : gotB c (a : Int) k = true := decide_eq_true (by omega)
  rw [hn, hb] at hg
  exact hg
theorem rGetW8 {w : World} {v : Value} {c : List Int} (hs : BSl w v c) (hc : c.length ≤ 100000) (a k : Nat) (A K : Int) (hA : A = a) (hK : K = k) (hk1 : 1 ≤ k) (hk : k ≤ 8) (ha : a + k ≤ c.length) (y : Int) (hy : y = getV c a k) :
    Calls Try.prog 32 #[v, .int .i64 A, .int .i64 K] w fun e w' => e = .returned (.tuple #[.int .u64 y, .bool true]) ∧ w = w' := by
  subst hA hK
  have hg := rGet_any' hs (by omega) (a : Int) k (by omega) (by omega)
  have hn : getN c (a : Int) k = y := by unfold getN; rw [if_pos (by omega), hy]; rfl
  have hb : gotB c (a : Int) k = true := decide_eq_true (by omega)
  rw [hn, hb] at hg
  exact hg
theorem getV_one {c : List Int} (hc : 3 ≤ c.length) : c.getD 2 0 = getV c 2 1 := by
  rw [getV_head c 2 0 (by omega), getV_zero]; omega
theorem conv_at {W : World} {b off cap n : Nat} {c : List Int} (hs : BSl W (.slice (some ⟨b, off, none⟩) c.length cap) c) (hn : 3 + n ≤ c.length) :
    (convert 24 9 (.slice (some ⟨b, off + 3, none⟩) n (cap - 3))).run Try.prog W = .ok (.string (strOfNums ((c.drop 3).take n))) W := conv_bsl (hs.mid 3 n hn)
theorem eRead_of {w : World} {v : Value} {c : List Int} (hs : BSl w v c) (hc : c.length = 16) :
    (¬ okL c → Calls Try.prog 27 #[v] w fun e w' => (∃ i s, e = .returned (.tuple #[.agg #[.int .i64 i, .string s], .bool false])) ∧ Below w.heap.size w w') ∧
    (okL c → Calls Try.prog 27 #[v] w fun e w' => e = .returned (.tuple #[.agg #[.int .i64 (rdE c).1, .string (rdE c).2], .bool true]) ∧ Below w.heap.size w w') := by
  obtain ⟨b, off, cap, rfl, hcap, hb⟩ := hs.open' (by omega)
  have hb1 := below_box w (.cells #[.int .i64 0, .string ⟨#[]⟩] 33)
  have hh1 := heap_alloc_new w (.cells #[.int .i64 0, .string ⟨#[]⟩] 33)
  obtain ⟨W1, hW1⟩ : ∃ W1, W1 = w.alloc (.cells #[.int .i64 0, .string ⟨#[]⟩] 33) := ⟨_, rfl⟩
  rw [← hW1] at hb1 hh1
  have H1 : Hid (w.alloc (.cells #[.int .i64 0, .string ⟨#[]⟩] 33) = W1) := Lib.hid hW1.symm
  have hs1 := hs.below hb1
  have hx0 := getV_bound (byt_mem hs.1) 0 2
  have hy0 := hs.1 2
  have hcv := fun n => conv_at (n := n) hs1
  have e65 : (256 : Int) ^ 2 = 65536 := rfl
  unfold okL rdE
  rw [e65] at hx0
  obtain ⟨x, hx⟩ : ∃ x, x = getV c 0 2 := ⟨_, rfl⟩
  obtain ⟨y, hy⟩ : ∃ y, y = c.getD 2 0 := ⟨_, rfl⟩
  have G1 := Lib.hid (pGetW8 hs1 (by omega) 0 2 0 2 rfl rfl (by omega) (by omega) (by omega) x hx)
  have G2 := Lib.hid (pGetW8 hs1 (by omega) 2 1 2 1 rfl rfl (by omega) (by omega) (by omega) y (by rw [hy]; exact getV_one (by omega)))
  have u1 := Try.underlying33
  have HB1 := Lib.hid hb1
  rw [← hx] at hx0 ⊢
  rw [← hy] at hy0 ⊢
  dsimp only
  rw [hc] at G1 G2 hcap hcv ⊢
  clear hs hs1 hW1 hx hy hb1 e65
  refine ⟨fun hno => ?_, fun hok => ?_⟩
  · have hor : y < 1 ∨ 13 < y := by omega
    clear hno hcv
    rcases hor with h | h
    · go_enter Try.func27, Try.ntmps27
      go_wp2_with (first
        | (go_at_call 31; rw [H1.out]; (with_reducible refine G1.out.mono ?_); rintro e w2 ⟨rfl, rfl⟩)
        | (go_at_call 31; (with_reducible refine G2.out.mono ?_); rintro e w2 ⟨rfl, rfl⟩)
        | (with_reducible refine wpList_store_e2 rfl 33 sizeE (.tmp 2) (.tmp 24) rfl w.heap.size rfl _ _ _ _ rfl rfl rfl _ hh1 ?_; intro w3 hw3 hr3))
      exact bodyPost_ret (ret_cell_e2 rfl Try.underlying33 sizeE _ _ w.heap.size _ _ _ _ rfl hr3 rfl) rfl ⟨⟨_, _, rfl⟩, HB1.out.trans (hw3.below (Nat.le_refl _))⟩
    · have hn1 : ¬ y < 1 := by omega
      go_enter Try.func27, Try.ntmps27
      go_wp2_with (first
        | (go_at_call 31; rw [H1.out]; (with_reducible refine G1.out.mono ?_); rintro e w2 ⟨rfl, rfl⟩)
        | (go_at_call 31; (with_reducible refine G2.out.mono ?_); rintro e w2 ⟨rfl, rfl⟩)
        | (with_reducible refine wpList_store_e2 rfl 33 sizeE (.tmp 2) (.tmp 24) rfl w.heap.size rfl _ _ _ _ rfl rfl rfl _ hh1 ?_; intro w3 hw3 hr3))
      exact bodyPost_ret (ret_cell_e2 rfl Try.underlying33 sizeE _ _ w.heap.size _ _ _ _ rfl hr3 rfl) rfl ⟨⟨_, _, rfl⟩, HB1.out.trans (hw3.below (Nat.le_refl _))⟩
  · obtain ⟨n, rfl⟩ : ∃ n : Nat, y = (n : Int) := ⟨y.toNat, by omega⟩
    have hn1 : ¬ (n : Int) < 1 := by omega
    have hn2 : ¬ 13 < (n : Int) := by omega
    have hcn := hcv n (by omega)
    have hwx : IntKind.i64.wrap x = x := IntWalk.i64_in _ (by omega)
    have hwn : IntKind.i64.wrap (n : Int) = (n : Int) := IntWalk.i64_in _ (by omega)
    rw [Int.toNat_natCast]
    obtain ⟨S, hS⟩ : ∃ S, S = strOfNums ((c.drop 3).take n) := ⟨_, rfl⟩
    rw [← hS] at hcn ⊢
    have HE1 : Hid (3 + n - 3 = n) := Lib.hid (by omega)
    have HE2 : Hid ((3 : Int) + (n : Int) = ((3 + n : Nat) : Int)) := Lib.hid (by omega)
    have hc1 : 3 + n ≤ cap := by omega
    have hc2 : 3 < cap := by omega
    clear hcv hS
    go_enter Try.func27, Try.ntmps27
    go_wp2_with (first
      | (go_at_call 31; rw [H1.out]; (with_reducible refine G1.out.mono ?_); rintro e w2 ⟨rfl, rfl⟩)
      | (go_at_call 31; (with_reducible refine G2.out.mono ?_); rintro e w2 ⟨rfl, rfl⟩)
      | (with_reducible refine wpList_slice_lh rfl (.tmp 27) (.const (.int .i64 3)) (.tmp 30) rfl b off 16 cap rfl 3 (3 + (n : Int)) rfl rfl 3 (3 + n) n HE1.out rfl HE2.out (Nat.le_add_right 3 n) hc1 hc2 ?_)
      | (with_reducible refine wpList_store_e2 rfl 33 sizeE (.tmp 2) (.tmp 33) rfl w.heap.size rfl _ _ _ _ rfl rfl rfl _ hh1 ?_; intro w3 hw3 hr3))
    exact bodyPost_ret (ret_cell_e2 rfl Try.underlying33 sizeE _ _ w.heap.size _ _ _ _ rfl hr3 rfl) rfl ⟨rfl, HB1.out.trans (hw3.below (Nat.le_refl _))⟩
end Go.Proofs.Yteemjhnlnjkjcaa
