/- Slices of owners; contracts of package group: possible, Formed, formedAll. -/
import Derived.Deep.CutRange
import Derived.Test.YtkbeencjklgcnaaGreatMg2
namespace Go.Proofs.YtkbeencjklgcnaaGreat
set_option maxRecDepth 100000
open Go.RowKit BM
set_option linter.unusedVariables false

/-- A value of type []Owner that reads as the owners O. -/
def OwSl (w : World) (v : Value) (O : List (Int × Int)) : Prop :=
  OwB O ∧ ((v = .slice none 0 0 ∧ O = []) ∨ ∃ a cap, v = .slice (some a) O.length cap ∧ ∀ j, j < O.length → a.block < w.heap.size ∧ a.spot = none ∧
    w.cell? ⟨a.block, a.off + j * 2, none⟩ = some (.int .u16 (O.getD j (0, 0)).1) ∧ w.cell? ⟨a.block, a.off + j * 2 + 1, none⟩ = some (.int .u16 (O.getD j (0, 0)).2))
theorem OwSl.below {w w' : World} {v : Value} {O : List (Int × Int)} (h : OwSl w v O) (hb : Below w.heap.size w w') : OwSl w' v O := by
  refine ⟨h.1, ?_⟩
  rcases h.2 with h | ⟨a, cap, hv, hc⟩
  · exact .inl h
  · refine .inr ⟨a, cap, hv, fun j hj => ?_⟩
    obtain ⟨h1, h2, h3, h4⟩ := hc j hj
    exact ⟨Nat.lt_of_lt_of_le h1 hb.size, h2, by rw [hb.cell (p := ⟨a.block, a.off + j * 2, none⟩) h1, h3], by rw [hb.cell (p := ⟨a.block, a.off + j * 2 + 1, none⟩) h1, h4]⟩
theorem OwSl.shape {w : World} {v : Value} {O : List (Int × Int)} (h : OwSl w v O) : ∃ ao cap, v = .slice ao O.length cap := by
  rcases h.2 with ⟨hv, hk⟩ | ⟨a, cap, hv, _⟩
  · exact ⟨none, 0, by rw [hv, hk]; rfl⟩
  · exact ⟨some a, cap, hv⟩
/-- The same, of a list that is not empty. -/
theorem OwSl.at {w : World} {v : Value} {O : List (Int × Int)} (h : OwSl w v O) (hO : 0 < O.length) : ∃ b off cap, v = .slice (some ⟨b, off, none⟩) O.length cap ∧ b < w.heap.size ∧
    ∀ j, j < O.length → w.cell? ⟨b, off + j * 2, none⟩ = some (.int .u16 (O.getD j (0, 0)).1) ∧ w.cell? ⟨b, off + j * 2 + 1, none⟩ = some (.int .u16 (O.getD j (0, 0)).2) := by
  rcases h.2 with ⟨_, hk⟩ | ⟨⟨b, off, spot⟩, cap, hv, hc⟩
  · rw [hk] at hO; simp at hO
  · obtain ⟨h1, h2, _⟩ := hc 0 hO
    obtain rfl : spot = none := h2
    exact ⟨b, off, cap, hv, h1, fun j hj => (hc j hj).2.2⟩

/-- The cells of an owner; of a list of owners. -/
def cO (x : Int × Int) : List Value := [.int .u16 x.1, .int .u16 x.2]
def ownC (O : List (Int × Int)) : List Value := O.flatMap cO
theorem cO_len : ∀ x : Int × Int, (cO x).length = 2 := fun _ => rfl
theorem ownC_length (O : List (Int × Int)) : (ownC O).length = O.length * 2 := flat_length fun x _ => cO_len x
theorem ownC_append (O P : List (Int × Int)) : ownC (O ++ P) = ownC O ++ ownC P := List.flatMap_append
theorem ownC_get (O : List (Int × Int)) (j : Nat) (h : j < O.length) : (ownC O)[j * 2]? = some (.int .u16 (O.getD j (0, 0)).1) ∧ (ownC O)[j * 2 + 1]? = some (.int .u16 (O.getD j (0, 0)).2) := by
  have hg := flat_get (f := cO) (s := 2) (L := O) (fun x _ => cO_len x) j h
  have e : O.getD j (0, 0) = O[j] := by simp [List.getD_eq_getElem?_getD, h]
  rw [e]
  have h0 := congrArg (fun z => z[0]?) hg
  have h1 := congrArg (fun z => z[1]?) hg
  simp only [List.getElem?_take, List.getElem?_drop, Nat.add_zero] at h0 h1
  rw [if_pos (by omega)] at h0 h1
  exact ⟨h0, h1⟩
/-- A []Owner of one's own, from block B on, that reads as O. -/
def OwR (w : World) (B : Nat) (v : Value) (O : List (Int × Int)) : Prop := OwB O ∧ w.ownsRow B 32 2 v O.length (ownC O)
theorem OwR.sl {w : World} {B : Nat} {v : Value} {O : List (Int × Int)} (h : OwR w B v O) : OwSl w v O := by
  refine ⟨h.1, ?_⟩
  rcases h.2.2 with ⟨hv, hl⟩ | ⟨g, cap, cur, hv, hg, hh, hnc, hcm, hcs, ht⟩
  · exact .inl ⟨hv, List.eq_nil_of_length_eq_zero hl⟩
  · refine .inr ⟨_, cap, hv, fun j hj => ⟨(Array.getElem?_eq_some_iff.1 hh).1, rfl, ?_⟩⟩
    obtain ⟨h1, h2⟩ := ownC_get O j hj
    rw [← ht, List.getElem?_take] at h1 h2
    rw [if_pos (by omega)] at h1 h2
    rw [Nat.zero_add, cell_of_row _ _ _ _ _ _ hh, cell_of_row _ _ _ _ _ _ hh]
    exact ⟨by simpa using h1, by simpa using h2⟩
theorem OwR.more {w : World} {B B' : Nat} {v : Value} {O : List (Int × Int)} (h : OwR w B v O) (hB : B' ≤ B) : OwR w B' v O := by
  refine ⟨h.1, h.2.1, ?_⟩
  rcases h.2.2 with h | ⟨g, cap, cur, hv, hg, r⟩
  · exact .inl h
  · exact .inr ⟨g, cap, cur, hv, Nat.le_trans hB hg, r⟩
theorem OwR.below {w w' : World} {B : Nat} {v : Value} {O : List (Int × Int)} (h : OwR w B v O) (hb : Below w.heap.size w w') : OwR w' B v O := by
  refine ⟨h.1, h.2.1, ?_⟩
  rcases h.2.2 with h | ⟨g, cap, cur, hv, hg, hh, r⟩
  · exact .inl h
  · exact .inr ⟨g, cap, cur, hv, hg, by rw [hb.block g (Array.getElem?_eq_some_iff.1 hh).1]; exact hh, r⟩
theorem OwR.of_row {w : World} {B g : Nat} {O : List (Int × Int)} (hb : OwB O) (hB : B ≤ g) (hg : w.heap[g]? = some (.cells (ownC O).toArray 32 (0, 0))) (hm : O.length ≤ maxLen) :
    OwR w B (.slice (some ⟨g, 0, none⟩) O.length O.length) O := by
  refine ⟨hb, ownC_length O, .inr ⟨g, O.length, _, rfl, hB, hg, Nat.le_refl _, hm, by simp [ownC_length], ?_⟩⟩
  rw [List.take_of_length_le (by simp [ownC_length])]

theorem infoOw : (Tryz.prog.info? 32).map (fun i => (i.zero, i.size, i.bytes)) = some (some (.agg #[.int .u16 0, .int .u16 0]), 2, 4) := by kernel_rfl
theorem made_ow (n : Nat) : madeCells (Value.agg #[.int .u16 0, .int .u16 0]).cells (n * 2) = (ownC (List.replicate n (0, 0))).toArray := by
  have e : ownC (List.replicate n (0, 0)) = List.replicate (n * 2) (.int .u16 0) := by
    apply List.ext_getElem?
    intro i
    by_cases h : i < n * 2
    · have h2 : i / 2 < (List.replicate n ((0 : Int), (0 : Int))).length := by simp; omega
      have hz : (List.replicate n ((0 : Int), (0 : Int))).getD (i / 2) (0, 0) = (0, 0) := by
        rw [List.getD_eq_getElem?_getD, List.getElem?_replicate]; split <;> rfl
      obtain ⟨h3, h4⟩ := ownC_get _ _ h2
      rw [hz] at h3 h4
      rw [List.getElem?_replicate, if_pos h]
      rcases Nat.mod_two_eq_zero_or_one i with e | e
      · rw [show i = i / 2 * 2 by omega]; exact h3
      · rw [show i = i / 2 * 2 + 1 by omega]; exact h4
    · rw [List.getElem?_eq_none (by rw [ownC_length]; simp; omega), List.getElem?_eq_none (by simp; omega)]
  rw [e]
  apply Array.ext
  · simp [size_madeCells]
  · intro i h1 h2
    simp only [madeCells, Value.cells, Array.getElem_map, Array.getElem_range]
    simp
    have : i % 2 = 0 ∨ i % 2 = 1 := by omega
    rcases this with e | e <;> rw [e] <;> rfl
/-- make([]Owner, n). -/
theorem wpList_make_ow (w : World) {ops : Array Oper} {rest : List Oper} {o : Oper} {a : Act} {Q : Exit → Act → World → Prop}
    (hg : o.guard = none) (l c : Operand) (hop : o.op = Op.makeSlice 35 l c) (C : Int) (n : Nat) (hl : a.eval l = .int .i64 C) (hc : a.eval c = .int .i64 C) (hC : C = n) (hn : n ≤ 1000000)
    (hK : wpList Tryz.prog ops Q rest (a.put o.dst (.slice (some ⟨w.heap.size, 0, none⟩) n n)) (w.alloc (.cells (ownC (List.replicate n (0, 0))).toArray 32))) :
    wpList Tryz.prog ops Q (o :: rest) a w := by
  refine wpList_plain hg fun K hK' => ?_
  obtain ⟨i, h2, h3, h4, h5⟩ := info_parts infoOw
  subst hC
  have hrun := run_make (P := Tryz.prog) w 35 32 i (.agg #[.int .u16 0, .int .u16 0]) Tryz.underlying35 h2 h3 .i64 .i64 n n (by omega) (by omega) (by rw [h5]; omega) (by omega)
  unfold Oper.wp
  simp only [Int.toNat_natCast, h4, made_ow] at hrun
  simp [execOp, hop, hl, hc, hrun, Result.andThen]
  exact hK' _ _ hK
/-- A struct into a row of owners that is known whole. -/
theorem wpList_store_ow {ops : Array Oper} {rest : List Oper} {op : Oper} {a : Act} {w : World} {Q : Exit → Act → World → Prop} (hgd : op.guard = none) (x y : Operand) (ho : op.op = .store 32 x y)
    (g k : Nat) (O : List (Int × Int)) (i j : Int) (hx : a.eval x = .pointer (some ⟨g, k * 2, none⟩)) (hy : a.eval y = .agg #[.int .u16 i, .int .u16 j])
    (hg : w.heap[g]? = some (.cells (ownC O).toArray 32 (0, 0))) (hk : k < O.length)
    (h : ∀ w', Wrote w w' g → w'.heap[g]? = some (.cells (ownC (O.set k (i, j))).toArray 32 (0, 0)) → wpList Tryz.prog ops Q rest (a.put op.dst undef) w') : wpList Tryz.prog ops Q (op :: rest) a w := by
  have hs : (Tryz.prog.info? 32).map (·.size) = some 2 := by kernel_rfl
  have hl : k * 2 + (cO (i, j)).length ≤ (ownC O).length := by rw [ownC_length, cO_len]; omega
  have h1 : ∀ v ∈ cO (i, j), v.oneCell' = true := fun v hv => by simp [cO] at hv; rcases hv with rfl | rfl <;> rfl
  refine wpList_store_mid hgd 32 x y ho g (k * 2) #[.int .u16 i, .int .u16 j] hx hy (there_row hg hl) (by rw [hs]; rfl) (all_oneCell_toArray (cs := cO (i, j)) h1) ?_
  have e := setCells_row hg hl h1
  rw [show (#[Value.int .u16 i, Value.int .u16 j] : Array Value).toList = cO (i, j) from rfl, e]
  refine h _ (Wrote.setRow _ _ _) ?_
  rw [setRow_heap _ _ _ _ _ _ hg, ownC, flat_set (f := cO) (s := 2) (fun x _ => cO_len x) k hk (i, j) (cO_len _)]
  rfl
/-- append of one owner onto owners of one's own (its cells lie in the block that was made last). -/
theorem wpList_append_ow (w1 : World) (i j : Int) (hi : 0 ≤ i ∧ i ≤ 65535) (hj : 0 ≤ j ∧ j ≤ 65535) {ops : Array Oper} {rest : List Oper} {o : Oper} {a : Act} {Q : Exit → Act → World → Prop} (hgd : o.guard = none) (s y : Operand)
    (ho : o.op = .call { callee := .builtin .append, args := #[s, y], argTypes := #[35, 35] })
    (B : Nat) (v : Value) (O : List (Int × Int)) (hs : a.eval s = v) (hown : OwR w1 B v O) (hO : O.length ≤ 1000000) (hy : a.eval y = .slice (some ⟨w1.heap.size, 0, none⟩) 1 1) (hB : B ≤ w1.heap.size)
    (h : ∀ v' w', OwR w' B v' (O ++ [(i, j)]) → Below B w1 w' → wpList Tryz.prog ops Q rest (a.put o.dst v') w') : wpList Tryz.prog ops Q (o :: rest) a (w1.alloc (.cells #[.int .u16 i, .int .u16 j] 32)) := by
  obtain ⟨t, h2, h3, h4, h5⟩ := info_parts infoOw
  have hbel : Below w1.heap.size w1 (w1.alloc (.cells #[.int .u16 i, .int .u16 j] 32)) := below_box _ _
  have hnew : (w1.alloc (.cells #[.int .u16 i, .int .u16 j] 32)).heap[w1.heap.size]? = some (.cells #[.int .u16 i, .int .u16 j] 32 (0, 0)) := heap_alloc_new w1 _
  have hf := hown.below hbel
  refine wpList_append_own _ hgd s y 35 ho B 32 t _ 2 4 Tryz.underlying35 h2 h3 h4 h5 rfl (by decide) v O.length _ hs hf.2 ⟨w1.heap.size, 0, none⟩ 1 1 [.int .u16 i, .int .u16 j] hy rfl ?_ ?_ (by simp only [maxLen]; omega) (by omega) (by simp; omega) fun v' w' h6 h7 _ => ?_
  · intro m u hm
    have hm2 : m < 2 := by simpa using (List.getElem?_eq_some_iff.1 hm).1
    rw [Addr.add_lit, Nat.zero_add, cell_of_row _ _ _ _ _ _ hnew, ← hm]
    have : m = 0 ∨ m = 1 := by omega
    rcases this with rfl | rfl <;> rfl
  · intro u hu
    simp at hu
    rcases hu with rfl | rfl <;> rfl
  · refine h v' w' ⟨owB_of fun m hm => ?_, ?_⟩ ((hbel.mono hB).trans ((Below.refl _ _).grown h7 (by simp; omega) fun k hk => (World.ownsRow.lt hf.2 k hk).1))
    · by_cases e : m < O.length
      · have := hown.1 m
        rw [List.getD_eq_getElem?_getD, List.getElem?_append_left e, ← List.getD_eq_getElem?_getD]; exact this
      · have e2 : m = O.length := by simp at hm; omega
        subst e2
        rw [List.getD_eq_getElem?_getD, List.getElem?_append_right (Nat.le_refl _)]; simpa using ⟨hi, hj⟩
    · rw [List.length_append, ownC_append]; exact h6

theorem grPoss_yes (g : Int) (h1 : 0 ≤ g) (h2 : g < 12) (w : World) : Calls Tryz.prog 132 #[.int .i64 g] w fun e w' => e = .returned (.bool true) ∧ w = w' := by
  go_enter Tryz.func132, Tryz.ntmps132
  go_wp2
  go_ret
  exact ⟨rfl, rfl⟩
theorem grPoss_no (g : Int) (h : ¬ (0 ≤ g ∧ g < 12)) (w : World) : Calls Tryz.prog 132 #[.int .i64 g] w fun e w' => e = .returned (.bool false) ∧ w = w' := by
  by_cases h0 : 0 ≤ g
  · have h1 : ¬ g < 12 := fun h2 => h ⟨h0, h2⟩
    go_enter Tryz.func132, Tryz.ntmps132
    go_wp2
    go_ret
    exact ⟨rfl, rfl⟩
  · clear h
    go_enter Tryz.func132, Tryz.ntmps132
    go_wp2
    go_ret
    exact ⟨rfl, rfl⟩

theorem grForm_any (i a : Int) (hi0 : 0 ≤ i) (hi : i ≤ 65535) (ha0 : 0 ≤ a) (ha : a ≤ 65535) (w : World) :
    Calls Tryz.prog 40 #[.agg #[.int .u16 i, .int .u16 a]] w fun e w' => e = .returned (.bool (frmO i a)) ∧ Below w.heap.size w w' := by
  have hob := below_box w (.cells #[.int .u16 i, .int .u16 a] 32)
  obtain ⟨B, hB⟩ : ∃ B, B = frmO i a := ⟨_, rfl⟩
  rw [← hB]
  unfold frmO at hB
  by_cases h0 : i = 0
  · rw [if_pos (.inl h0)] at hB
    subst h0
    cases hd : decide (a = 0)
    all_goals
      rw [hd] at hB
      have HB := Lib.hid hB
      have hda : (a == 0) = _ := hd
      clear hB hd
      go_enter Tryz.func40, Tryz.ntmps40
      go_wp2
      go_ret
      exact ⟨by rw [HB.out]; rfl, hob⟩
  · have e0 : (i == 0) = false := by simpa using h0
    by_cases h1 : i = 65535
    · rw [if_pos (.inr h1)] at hB
      subst h1
      cases hd : decide (a = 0)
      all_goals
        rw [hd] at hB
        have HB := Lib.hid hB
        have hda : (a == 0) = _ := hd
        clear hB hd h0
        go_enter Tryz.func40, Tryz.ntmps40
        go_wp2
        go_ret
        exact ⟨by rw [HB.out]; rfl, hob⟩
    · rw [if_neg (by omega)] at hB
      have e1 : (i == 65535) = false := by simpa using h1
      by_cases h2 : i = 65534
      · rw [if_pos h2] at hB
        subst h2
        cases hd : decide (a < 6)
        all_goals
          rw [hd] at hB
          have HB := Lib.hid hB
          clear hB h0 h1
          go_enter Tryz.func40, Tryz.ntmps40
          go_wp2
          go_ret
          exact ⟨by rw [HB.out]; rfl, hob⟩
      · rw [if_neg h2] at hB
        have e2 : (i == 65534) = false := by simpa using h2
        clear h0 h1 h2
        by_cases h3 : i < 48
        · by_cases h4 : a < 138
          · have HB : Hid (B = true) := Lib.hid (by rw [hB]; simp [h3, h4])
            clear hB
            go_enter Tryz.func40, Tryz.ntmps40
            go_wp2
            go_ret
            exact ⟨by rw [HB.out]; rfl, hob⟩
          · have hda : (a == 65535) = B := by rw [hB, decide_eq_true h3, decide_eq_false h4]; rfl
            have hb2 : B = true ∨ B = false := by cases B <;> simp
            clear hB
            rcases hb2 with rfl | rfl
            all_goals
              go_enter Tryz.func40, Tryz.ntmps40
              go_wp2
              go_ret
              exact ⟨rfl, hob⟩
        · have HB : Hid (B = false) := Lib.hid (by rw [hB]; simp [h3])
          clear hB
          go_enter Tryz.func40, Tryz.ntmps40
          go_wp2
          go_ret
          exact ⟨by rw [HB.out]; rfl, hob⟩

theorem grForm_is (i a : Int) (hi : 0 ≤ i ∧ i ≤ 65535) (ha : 0 ≤ a ∧ a ≤ 65535) (B : Bool) (h : frmO i a = B) (w : World) :
    Calls Tryz.prog 40 #[.agg #[.int .u16 i, .int .u16 a]] w fun e w' => e = .returned (.bool B) ∧ Below w.heap.size w w' := by
  rw [← h]; exact grForm_any i a hi.1 hi.2 ha.1 ha.2 w

theorem grAll_len {w : World} (ao : Option Addr) (len cap : Nat) (h : len ≠ 64) : Calls Tryz.prog 106 #[.slice ao len cap] w fun e w' => e = .returned (.bool false) ∧ w = w' := by
  have hne : ((len : Int) != 64) = true := by simp; omega
  go_enter Tryz.func106, Tryz.ntmps106
  go_wp2
  go_ret
  exact ⟨rfl, rfl⟩
theorem grAll_64 {w : World} {b off cap : Nat} {O : List (Int × Int)} (hO : O.length = 64) (hB : OwB O) (hb : b < w.heap.size)
    (hc : ∀ j, j < O.length → w.cell? ⟨b, off + j * 2, none⟩ = some (.int .u16 (O.getD j (0, 0)).1) ∧ w.cell? ⟨b, off + j * 2 + 1, none⟩ = some (.int .u16 (O.getD j (0, 0)).2)) :
    Calls Tryz.prog 106 #[.slice (some ⟨b, off, none⟩) 64 cap] w fun e w' => e = .returned (.bool (allO O)) ∧ Below w.heap.size w w' := by
  obtain ⟨R, hR⟩ : ∃ R, R = allO O := ⟨_, rfl⟩
  rw [← hR]
  have HC := Lib.hid hc
  have HO := Lib.hid hO
  have HBB := Lib.hid hB
  have hRR : R = frmK O 64 := by rw [hR, allO, hO]; rfl
  have HR := Lib.hid hRR
  clear hc hO hB hR hRR
  go_enter Tryz.func106, Tryz.ntmps106
  go_wp2
  go_loopw [10] (fun i wr => ∃ k : Nat, k ≤ 64 ∧ i = .int .i64 k ∧ Hid (frmK O k = true) ∧ Below w.heap.size w wr) (fun i _ => 64 - (intOf i).toNat)
  case atStart => exact ⟨0, by omega, rfl, rfl, Below.refl _ _⟩
  case round =>
    obtain ⟨k, hk, rfl, HK, hbr⟩ := hrel
    by_cases hlt : k < 64
    · have hck := HC.out k (by rw [HO.out]; exact hlt)
      have hbd := HBB.out k
      have hj : frmJ O k = frmO (O.getD k (0, 0)).1 (O.getD k (0, 0)).2 := rfl
      obtain ⟨x, hx⟩ : ∃ x, x = (O.getD k (0, 0)).1 := ⟨_, rfl⟩
      obtain ⟨y, hy⟩ : ∃ y, y = (O.getD k (0, 0)).2 := ⟨_, rfl⟩
      rw [← hx, ← hy] at hck hbd hj
      have c1 := (hbr.cell (p := ⟨b, off + k * 2, none⟩) hb).trans hck.1
      have c2 := (hbr.cell (p := ⟨b, off + k * 2 + 1, none⟩) hb).trans hck.2
      have ek : (k : Int) < 64 := by omega
      clear hx hy hck
      cases hf : frmO x y
      · have HF := Lib.hid hf
        rw [hf] at hj
        have HJ := Lib.hid hj
        clear hf hj
        go_wp2_with (go_at_call 40; refine (grForm_is x y hbd.1 hbd.2 false HF.out _).mono ?_; rintro e w2 ⟨rfl, hb2⟩)
        go_ret
        exact ⟨ret_bool (by rw [HR.out, frmK_no HJ.out hlt]), (hbr.trans ((below_box _ _).mono hbr.size)).trans (hb2.mono (by have := hbr.size; simp; omega))⟩
      · have HF := Lib.hid hf
        rw [hf] at hj
        have HJ := Lib.hid hj
        clear hf hj
        go_wp2_with (go_at_call 40; refine (grForm_is x y hbd.1 hbd.2 true HF.out _).mono ?_; rintro e w2 ⟨rfl, hb2⟩)
        go_roundw
        case rel => exact ⟨k + 1, by omega, by go_num, by show frmK O (k + 1) = true; rw [frmK, HK.out, HJ.out]; rfl, (hbr.trans ((below_box _ _).mono hbr.size)).trans (hb2.mono (by have := hbr.size; simp; omega))⟩
        case measure => simp [intOf]; omega
    · obtain rfl : k = 64 := by omega
      go_wp2
      go_ret
      exact ⟨ret_bool (by rw [HR.out, HK.out]), hbr⟩

theorem grAll_any {w : World} {v : Value} {O : List (Int × Int)} (hs : OwSl w v O) : Calls Tryz.prog 106 #[v] w fun e w' => e = .returned (.bool (allO O)) ∧ Below w.heap.size w w' := by
  by_cases h : O.length = 64
  · obtain ⟨b, off, cap, rfl, hb, hc⟩ := hs.at (by omega)
    rw [h]
    exact grAll_64 h hs.1 hb hc
  · obtain ⟨ao, cap, rfl⟩ := hs.shape
    refine (grAll_len ao _ cap h).mono fun e w' ⟨he, hw⟩ => ⟨?_, by rw [← hw]; exact Below.refl _ _⟩
    rw [he, allO, decide_eq_false h]; rfl

end Go.Proofs.YtkbeencjklgcnaaGreat

/- Contracts of the reference's layout: the same plain functions. -/
namespace Go.Proofs.YtkbeencjklgcnaaGreat
set_option maxRecDepth 100000
open Go.RowKit
set_option linter.unusedVariables false

theorem rFormed_any (b : Int) (hm : b ≤ 9223372036854775807) (w : World) : Calls Tryz.prog 42 #[.int .i64 b] w fun e w' => e = .returned (.bool (frmB b)) ∧ w = w' := by
  by_cases h1 : 64 ≤ b
  · by_cases h3 : b ≤ 768
    · have h0 : 0 ≤ b := by omega
      by_cases h2 : b % 64 = 0
      · have hr : frmB b = true := decide_eq_true (by omega)
        rw [hr]
        have h2' : (b % 64 == 0) = true := by simp [h2]
        clear hr h2
        go_enter Tryz.func42, Tryz.ntmps42
        go_wp2
        go_ret
        exact ⟨rfl, rfl⟩
      · have hr : frmB b = false := decide_eq_false (by omega)
        rw [hr]
        have h2' : (b % 64 == 0) = false := by simp [h2]
        clear hr h2
        go_enter Tryz.func42, Tryz.ntmps42
        go_wp2
        go_ret
        exact ⟨rfl, rfl⟩
    · have hr : frmB b = false := decide_eq_false (by omega)
      rw [hr]
      clear hr
      go_enter Tryz.func42, Tryz.ntmps42
      go_wp2
      go_ret
      exact ⟨rfl, rfl⟩
  · have hr : frmB b = false := decide_eq_false (by omega)
    rw [hr]
    clear hr
    go_enter Tryz.func42, Tryz.ntmps42
    go_wp2
    go_ret
    exact ⟨rfl, rfl⟩
theorem rFormed_yes (k : Nat) (h1 : 1 ≤ k) (h2 : k ≤ 12) (w : World) : Calls Tryz.prog 42 #[.int .i64 (64 * (k : Int))] w fun e w' => e = .returned (.bool true) ∧ w = w' := by
  have := rFormed_any (64 * (k : Int)) (by omega) w
  rw [frm_mk k h1 h2] at this; exact this
theorem rFormed_no (b : Int) (hm : b ≤ 9223372036854775807) (h : frmB b = false) (w : World) : Calls Tryz.prog 42 #[.int .i64 b] w fun e w' => e = .returned (.bool false) ∧ w = w' := by
  have := rFormed_any b hm w
  rw [h] at this; exact this
theorem rGroups_any (b : Int) (hm : b ≤ 9223372036854775807) (w : World) : Calls Tryz.prog 28 #[.int .i64 b] w fun e w' => e = .returned (.int .i64 (grsI b)) ∧ w = w' := by
  cases hb : frmB b
  · have hr : grsI b = 0 := by unfold grsI; rw [if_neg (by simp [hb])]
    rw [hr]
    have HB := Lib.hid hb
    clear hb hr
    go_enter Tryz.func28, Tryz.ntmps28
    go_wp2_with (go_at_call 42; refine (rFormed_no b hm HB.out _).mono ?_; rintro e w' ⟨rfl, rfl⟩)
    go_ret
    exact ⟨rfl, rfl⟩
  · obtain ⟨k, h1, h2, rfl⟩ := frm_yes hb
    have hr : grsI (64 * (k : Int)) = k := by unfold grsI; rw [if_pos hb]; omega
    rw [hr]
    clear hr hb hm
    go_enter Tryz.func28, Tryz.ntmps28
    go_wp2_with (go_at_call 42; refine (rFormed_yes k h1 h2 _).mono ?_; rintro e w' ⟨rfl, rfl⟩)
    go_ret
    exact ⟨ret_i (by omega), rfl⟩
theorem rDesc_any (g : Int) (w : World) : Calls Tryz.prog 55 #[.int .i64 g] w fun e w' => e = .returned (.int .i64 (dscI g)) ∧ w = w' := by
  by_cases h1 : g < 0
  · have hr : dscI g = -1 := if_neg (by omega)
    rw [hr]; clear hr
    go_enter Tryz.func55, Tryz.ntmps55
    go_wp2
    go_ret
    exact ⟨rfl, rfl⟩
  · by_cases h2 : 11 < g
    · have hr : dscI g = -1 := if_neg (by omega)
      rw [hr]; clear hr
      go_enter Tryz.func55, Tryz.ntmps55
      go_wp2
      go_ret
      exact ⟨rfl, rfl⟩
    · by_cases h3 : g = 0
      · subst h3
        rw [show dscI 0 = 1 from rfl]
        clear h1 h2
        go_enter Tryz.func55, Tryz.ntmps55
        go_wp2
        go_ret
        exact ⟨rfl, rfl⟩
      · have hr : dscI g = g * 64 := by unfold dscI; rw [if_pos ⟨by omega, by omega⟩, if_neg h3]
        rw [hr]
        have h3' : (g == 0) = false := by simp [h3]
        have h4 : 0 ≤ g := by omega
        have h5 : g ≤ 11 := by omega
        clear hr h3
        go_enter Tryz.func55, Tryz.ntmps55
        go_wp2
        go_ret
        exact ⟨ret_i (by omega), rfl⟩
theorem rOwners_any (g : Int) (w : World) : Calls Tryz.prog 56 #[.int .i64 g] w fun e w' => e = .returned (.int .i64 (ownI g)) ∧ w = w' := by
  by_cases h : 0 ≤ g ∧ g < 12
  · have hr : ownI g = dscI g + 1 := if_pos h
    rw [hr]
    obtain ⟨h1, h2⟩ := h
    obtain ⟨d1, d2⟩ := dsc_bd g h1 h2
    clear hr
    go_enter Tryz.func56, Tryz.ntmps56
    go_wp2_with (go_at_call 55; refine (rDesc_any g _).mono ?_; rintro e w' ⟨rfl, rfl⟩)
    go_ret
    exact ⟨rfl, rfl⟩
  · have hr : ownI g = -1 := if_neg h
    have hd : dscI g = -1 := if_neg h
    rw [hr]
    have HD : ∀ w, Calls Tryz.prog 55 #[.int .i64 g] w fun e w' => e = .returned (.int .i64 (-1)) ∧ w = w' := fun w => by
      have := rDesc_any g w; rw [hd] at this; exact this
    clear hr h hd
    go_enter Tryz.func56, Tryz.ntmps56
    go_wp2_with (go_at_call 55; refine (HD _).mono ?_; rintro e w' ⟨rfl, rfl⟩)
    go_ret
    exact ⟨rfl, rfl⟩
theorem rFixed_any (n : Int) (hm : n ≤ 9223372036854775807) (w : World) : Calls Tryz.prog 47 #[.int .i64 n] w fun e w' => e = .returned (.bool (fixB n)) ∧ w = w' := by
  by_cases h1 : n < 0
  · have hr : fixB n = false := decide_eq_false (by omega)
    rw [hr]; clear hr
    go_enter Tryz.func47, Tryz.ntmps47
    go_wp2
    go_ret
    exact ⟨rfl, rfl⟩
  · by_cases h2 : 768 ≤ n
    · have hr : fixB n = false := decide_eq_false (by omega)
      rw [hr]; clear hr
      go_enter Tryz.func47, Tryz.ntmps47
      go_wp2
      go_ret
      exact ⟨rfl, rfl⟩
    · by_cases h3 : n < 64
      · by_cases h4 : n < 43
        · have hr : fixB n = true := decide_eq_true (by omega)
          rw [hr]; clear hr
          go_enter Tryz.func47, Tryz.ntmps47
          go_wp2
          go_ret
          exact ⟨rfl, rfl⟩
        · have hr : fixB n = (n == 63) := by rw [Bool.eq_iff_iff]; unfold fixB; simp only [decide_eq_true_eq, beq_iff_eq]; omega
          rw [hr]; clear hr
          go_enter Tryz.func47, Tryz.ntmps47
          go_wp2
          go_ret
          exact ⟨by simp, rfl⟩
      · have h0 : 0 ≤ n := by omega
        have hr : fixB n = decide (n % 64 < 2) := by rw [Bool.eq_iff_iff]; unfold fixB; simp only [decide_eq_true_eq]; omega
        rw [hr]; clear hr
        go_enter Tryz.func47, Tryz.ntmps47
        go_wp2
        go_ret
        exact ⟨by simp, rfl⟩
theorem rOpnB_no (b : Int) (hm : b ≤ 9223372036854775807) (hb : frmB b = false) (w : World) : Calls Tryz.prog 43 #[.int .i64 b] w fun e w' => e = .returned (.int .i64 0) ∧ w = w' := by
  have HB := Lib.hid hb
  clear hb
  go_enter Tryz.func43, Tryz.ntmps43
  go_wp2_with (go_at_call 42; refine (rFormed_no b hm HB.out _).mono ?_; rintro e w' ⟨rfl, rfl⟩)
  go_ret
  exact ⟨rfl, rfl⟩
theorem rOpnB_yes (k : Nat) (h1 : 1 ≤ k) (h2 : k ≤ 12) (w : World) : Calls Tryz.prog 43 #[.int .i64 (64 * (k : Int))] w fun e w' => e = .returned (.int .i64 (62 * (k : Int) - 42)) ∧ w = w' := by
  have hfin := cntO_mul k h1 h2
  obtain ⟨N, hN⟩ : ∃ N, N = 64 * k := ⟨_, rfl⟩
  have hN1 : N ≤ 768 := by omega
  have hNI : 64 * (k : Int) = (N : Int) := by omega
  have HF : Calls Tryz.prog 42 #[.int .i64 (N : Int)] w fun e w' => e = .returned (.bool true) ∧ w = w' := by
    rw [← hNI]; exact rFormed_yes k h1 h2 w
  rw [← hN] at hfin
  rw [hNI]
  have HFIN := Lib.hid hfin
  clear hN hNI hfin h1 h2
  go_enter Tryz.func43, Tryz.ntmps43
  go_wp2_with (go_at_call 42; refine HF.mono ?_; rintro e w' ⟨rfl, rfl⟩)
  go_loop [3, 9] (fun c i => ∃ j : Nat, j ≤ N ∧ i = .int .i64 j ∧ c = .int .i64 (cntO j)) (fun _ i => N - (intOf i).toNat)
  case atStart => exact ⟨0, by omega, rfl, rfl⟩
  case round =>
    obtain ⟨j, hj, rfl, rfl⟩ := hrel
    have hle := cntO_le j
    by_cases hlt : j < N
    · rcases hfx : fixB (j : Int) with _ | _
      · have hs : cntO (j + 1) = cntO j + 1 := by rw [cntO, if_neg (by simp [hfx])]
        have HX := rFixed_any (j : Int) (by omega) w
        rw [hfx] at HX
        have HS := Lib.hid hs
        clear hs hfx
        go_wp2_with (go_at_call 47; refine HX.mono ?_; rintro e w' ⟨rfl, rfl⟩)
        go_round
        case rel => exact ⟨j + 1, by omega, by go_num, by rw [HS.out]; go_num⟩
        case measure => simp [intOf]; omega
      · have hs : cntO (j + 1) = cntO j := by rw [cntO, if_pos hfx]
        have HX := rFixed_any (j : Int) (by omega) w
        rw [hfx] at HX
        have HS := Lib.hid hs
        clear hs hfx
        go_wp2_with (go_at_call 47; refine HX.mono ?_; rintro e w' ⟨rfl, rfl⟩)
        go_round
        case rel => exact ⟨j + 1, by omega, by go_num, by rw [HS.out]⟩
        case measure => simp [intOf]; omega
    · go_wp2
      go_ret
      obtain rfl : j = N := by omega
      have := HFIN.out
      exact ⟨ret_i (by omega), rfl⟩
theorem rOpnB_any (b : Int) (hm : b ≤ 9223372036854775807) (w : World) : Calls Tryz.prog 43 #[.int .i64 b] w fun e w' => e = .returned (.int .i64 (opnI b)) ∧ w = w' := by
  cases hb : frmB b
  · have hr : opnI b = 0 := by unfold opnI; rw [if_neg (by simp [hb])]
    rw [hr]
    exact rOpnB_no b hm hb w
  · obtain ⟨k, h1, h2, rfl⟩ := frm_yes hb
    rw [opn_mk k h1 h2]
    exact rOpnB_yes k h1 h2 w
theorem rFixed_is (n : Int) (hm : n ≤ 9223372036854775807) (B : Bool) (h : fixB n = B) (w : World) : Calls Tryz.prog 47 #[.int .i64 n] w fun e w' => e = .returned (.bool B) ∧ w = w' := by
  rw [← h]; exact rFixed_any n hm w

end Go.Proofs.YtkbeencjklgcnaaGreat

/- Layer 12's reference, whose each block is: plainly, and in memory. -/
namespace Go.Proofs.YtkbeencjklgcnaaGreat
set_option maxRecDepth 100000
open Go.RowKit
set_option linter.unusedVariables false

def freeJ (O : List (Int × Int)) (j : Nat) : Bool := decide ((O.getD j (0, 0)).1 = 0)
/-- Of the first k blocks how many are open, and used. -/
def cntU (O : List (Int × Int)) : Nat → Nat
  | 0 => 0
  | k + 1 => cntU O k + (if fixB (k : Int) = false ∧ freeJ O k = false then 1 else 0)
theorem cntU_le (O : List (Int × Int)) : ∀ k, cntU O k ≤ k
  | 0 => Nat.le_refl _
  | k + 1 => by have := cntU_le O k; unfold cntU; split <;> omega
/-- Where the search from g on, of L blocks, ends: n places in. -/
def findS (O : List (Int × Int)) (L g : Nat) : Int :=
  match (List.range L).find? (fun k => freeJ O ((g + k) % L)) with
  | some k => (((g + k) % L : Nat) : Int)
  | none => -1
theorem findS_hit {O : List (Int × Int)} {L g k : Nat} (hk : k < L) (h : freeJ O ((g + k) % L) = true) (hn : ∀ j, j < k → freeJ O ((g + j) % L) = false) : findS O L g = (((g + k) % L : Nat) : Int) := by
  have e : (List.range L).find? (fun k => freeJ O ((g + k) % L)) = some k := by
    rw [List.find?_eq_some_iff_append]
    refine ⟨h, List.range k, (List.range (L - k - 1)).map (k + 1 + ·), ?_, fun a ha => by simp [hn a (List.mem_range.1 ha)]⟩
    have e1 : L = k + (1 + (L - k - 1)) := by omega
    conv => lhs; rw [e1, List.range_add, List.range_add]
    simp [Nat.add_assoc]
  unfold findS
  rw [e]
theorem findS_none {O : List (Int × Int)} {L g : Nat} (hn : ∀ j, j < L → freeJ O ((g + j) % L) = false) : findS O L g = -1 := by
  have e : (List.range L).find? (fun k => freeJ O ((g + k) % L)) = none := by
    rw [List.find?_eq_none]
    intro x hx
    simp [hn x (List.mem_range.1 hx)]
  unfold findS
  rw [e]
/-- How many blocks just ahead of the i-th are free. -/
def runF (O : List (Int × Int)) : Nat → Nat
  | 0 => 0
  | i + 1 => if freeJ O i = true then runF O i + 1 else 0
theorem runF_le (O : List (Int × Int)) : ∀ i, runF O i ≤ i
  | 0 => Nat.le_refl _
  | i + 1 => by have := runF_le O i; unfold runF; split <;> omega
/-- The reference's Space in memory; M: its blocks. -/
def RSp (w : World) (M : Nat → Prop) (p : Value) (n : Int) (O : List (Int × Int)) : Prop :=
  ∃ b v, p = .pointer (some ⟨b, 0, none⟩) ∧ w.heap[b]? = some (.cells #[.int .i64 n, v] 37 (0, 0)) ∧ OwR w 0 v O ∧ (∀ k, M k ↔ k = b ∨ v.ownBlock = some k)
theorem RSp.lt {w : World} {M : Nat → Prop} {p : Value} {n : Int} {O : List (Int × Int)} (h : RSp w M p n O) {k : Nat} (hk : M k) : k < w.heap.size := by
  obtain ⟨b, v, _, hb, ho, hM⟩ := h
  rcases (hM k).1 hk with rfl | hk
  · exact (Array.getElem?_eq_some_iff.1 hb).1
  · exact (ho.2.lt k hk).2
end Go.Proofs.YtkbeencjklgcnaaGreat

/- Layer 12's reference: contracts of Used, Find. -/
namespace Go.Proofs.YtkbeencjklgcnaaGreat
set_option maxRecDepth 100000
open Go.RowKit
set_option linter.unusedVariables false

section
variable {w : World} {M : Nat → Prop} {p : Value} {n : Int} {O : List (Int × Int)}
/-- The cells of a Space. -/
theorem RSp.cells (h : RSp w M p n O) (h0 : 0 < O.length) : ∃ b g off cap, p = .pointer (some ⟨b, 0, none⟩) ∧ w.cell? ⟨b, 0, none⟩ = some (.int .i64 n) ∧ w.cell? ⟨b, 1, none⟩ = some (.slice (some ⟨g, off, none⟩) O.length cap) ∧
    ∀ j, j < O.length → w.cell? ⟨g, off + j * 2, none⟩ = some (.int .u16 (O.getD j (0, 0)).1) ∧ w.cell? ⟨g, off + j * 2 + 1, none⟩ = some (.int .u16 (O.getD j (0, 0)).2) := by
  obtain ⟨b, v, rfl, hb, ho, _⟩ := h
  obtain ⟨g, off, cap, rfl, _, hc⟩ := ho.sl.at h0
  refine ⟨b, g, off, cap, rfl, ?_, ?_, fun j hj => ?_⟩
  · rw [cell_of_row _ _ _ _ _ _ hb]; rfl
  · rw [cell_of_row _ _ _ _ _ _ hb]; rfl
  · exact hc j hj
theorem rSpUsed_no (h : RSp w M p n O) {b : Int} (hb : b ≤ 9223372036854775807) (hf : frmB b = false) : Calls Tryz.prog 19 #[p, .int .i64 b] w fun e w' => e = .returned (.tuple #[.int .i64 0, .int .i64 1]) ∧ w = w' := by
  have KF := Lib.hid (rFormed_any b hb w)
  rw [hf] at KF
  obtain ⟨bp, v, rfl, _⟩ := h
  go_enter Tryz.func19, Tryz.ntmps19
  go_wp2_with (go_at_call 42; (with_reducible refine KF.out.mono ?_); rintro e w' ⟨rfl, rfl⟩)
  go_ret2
  exact ⟨rfl, rfl⟩
theorem rSpUsed_yes (h : RSp w M p n O) {L : Nat} (hf : frmB (L : Int) = true) (hL : L ≤ O.length) (hO : O.length ≤ 100000) (h0 : 0 < L) : Calls Tryz.prog 19 #[p, .int .i64 L] w fun e w' => e = .returned (.tuple #[.int .i64 (cntU O L), .int .i64 0]) ∧ w = w' := by
  have KF := Lib.hid (rFormed_any (L : Int) (by omega) w)
  rw [hf] at KF
  obtain ⟨bp, g, off, cap, rfl, c0, c1, hc⟩ := h.cells (by omega)
  have HC := Lib.hid hc
  have HLE := Lib.hid (cntU_le O)
  have KX := Lib.hid (fun (k : Nat) (hk : k < L) => rFixed_any (k : Int) (by omega) w)
  obtain ⟨m, hm⟩ : ∃ m, m = O.length := ⟨_, rfl⟩
  have HM := Lib.hid hm
  have hmin : min (L : Int) (m : Int) = (L : Int) := by omega
  have HL := Lib.hid hL
  have HO := Lib.hid hO
  rw [← hm] at c1 hL hO
  clear hm hc h hf
  go_enter Tryz.func19, Tryz.ntmps19
  go_wp2_with (go_at_call 42; (with_reducible refine KF.out.mono ?_); rintro e w' ⟨rfl, rfl⟩)
  go_loopw [6, 18] (fun c i wr => wr = w ∧ ∃ k : Nat, i = .int .i64 k ∧ c = .int .i64 (cntU O k) ∧ k ≤ L) (fun c i _ => L - (intOf i).toNat)
  case atStart => exact ⟨rfl, 0, rfl, rfl, Nat.zero_le _⟩
  case round =>
    obtain ⟨rfl, k, rfl, rfl, hkL⟩ := hrel
    by_cases hlt : k < L
    · have ek : (k : Int) < (L : Int) := by omega
      obtain ⟨d0, d1⟩ := HC.out k (by have := HL.out; omega)
      have KX1 := Lib.hid (KX.out k hlt)
      have hck := HLE.out k
      have HS : Hid (cntU O (k + 1) = cntU O k + (if fixB (k : Int) = false ∧ freeJ O k = false then 1 else 0)) := Lib.hid rfl
      obtain ⟨c, hcc⟩ : ∃ c, c = cntU O k := ⟨_, rfl⟩
      rw [← hcc] at HS hck ⊢
      obtain ⟨x, hx⟩ : ∃ x, x = (O.getD k (0, 0)).1 := ⟨_, rfl⟩
      have HF : Hid (freeJ O k = decide (x = 0)) := Lib.hid (by unfold freeJ; rw [hx])
      rw [← hx] at d0
      rw [HF.out] at HS
      clear hcc hx HF
      cases hfx : fixB (k : Int)
      · rw [hfx] at KX1 HS
        by_cases hfr : x = 0
        · subst hfr
          have HS2 : Hid (cntU O (k + 1) = c) := Lib.hid (by rw [HS.out]; simp)
          clear HS hfx
          go_wp2_with (go_at_call 47; (with_reducible refine KX1.out.mono ?_); rintro e w' ⟨rfl, rfl⟩)
          go_roundw
          case rel => exact ⟨trivial, k + 1, by go_num, by rw [HS2.out], by omega⟩
          case measure => simp [intOf]; omega
        · have e1 : (x != 0) = true := by simp [hfr]
          have HS2 : Hid (cntU O (k + 1) = c + 1) := Lib.hid (by rw [HS.out]; simp [hfr])
          clear HS hfx
          go_wp2_with (go_at_call 47; (with_reducible refine KX1.out.mono ?_); rintro e w' ⟨rfl, rfl⟩)
          go_roundw
          case rel => exact ⟨trivial, k + 1, by go_num, by rw [HS2.out]; go_num, by omega⟩
          case measure => simp [intOf]; omega
      · rw [hfx] at KX1 HS
        have HS2 : Hid (cntU O (k + 1) = c) := Lib.hid (by rw [HS.out]; simp)
        clear HS hfx
        go_wp2_with (go_at_call 47; (with_reducible refine KX1.out.mono ?_); rintro e w' ⟨rfl, rfl⟩)
        go_roundw
        case rel => exact ⟨trivial, k + 1, by go_num, by rw [HS2.out], by omega⟩
        case measure => simp [intOf]; omega
    · obtain rfl : k = L := by omega
      go_wp2
      go_ret2
      exact ⟨rfl, rfl⟩
end
end Go.Proofs.YtkbeencjklgcnaaGreat

/- Layer 12's reference: an owner into a row of which more is known than what is laid. -/
namespace Go.Proofs.YtkbeencjklgcnaaGreat
set_option maxRecDepth 100000
open Go.RowKit
set_option linter.unusedVariables false

theorem splice_take {α : Type} {cur vs : List α} {o n : Nat} (h : o + vs.length ≤ n) (hn : n ≤ cur.length) : (splice cur o vs).take n = splice (cur.take n) o vs := by
  apply List.ext_getElem?
  intro i
  unfold splice
  by_cases h1 : i < n
  · rw [List.getElem?_take, if_pos h1]
    have e1 : (List.take o cur).length = o := by rw [List.length_take]; omega
    have e2 : (List.take o (List.take n cur)).length = o := by rw [List.length_take, List.length_take]; omega
    rw [List.getElem?_append, List.getElem?_append (l₁ := List.take o (List.take n cur)), e1, e2]
    by_cases h2 : i < o
    · rw [if_pos h2, if_pos h2, List.getElem?_take, List.getElem?_take, if_pos h2, if_pos h2, List.getElem?_take, if_pos h1]
    · rw [if_neg h2, if_neg h2, List.getElem?_append, List.getElem?_append]
      by_cases h3 : i - o < vs.length
      · rw [if_pos h3, if_pos h3]
      · rw [if_neg h3, if_neg h3, List.getElem?_drop, List.getElem?_drop, List.getElem?_take, if_pos (by omega)]
  · rw [List.getElem?_eq_none (by simp; omega), List.getElem?_eq_none (by simp; omega)]
theorem wpList_store_owp {ops : Array Oper} {rest : List Oper} {op : Oper} {a : Act} {w : World} {Q : Exit → Act → World → Prop} (hgd : op.guard = none) (x y : Operand) (ho : op.op = .store 32 x y)
    (g k : Nat) (O : List (Int × Int)) (cur : Array Value) (i j : Int) (hx : a.eval x = .pointer (some ⟨g, k * 2, none⟩)) (hy : a.eval y = .agg #[.int .u16 i, .int .u16 j])
    (hg : w.heap[g]? = some (.cells cur 32 (0, 0))) (hc : cur.toList.take (O.length * 2) = ownC O) (hs : O.length * 2 ≤ cur.size) (hk : k < O.length)
    (h : ∀ w' cur', Wrote w w' g → w'.heap[g]? = some (.cells cur' 32 (0, 0)) → cur'.size = cur.size → cur'.toList.take (O.length * 2) = ownC (O.set k (i, j)) → wpList Tryz.prog ops Q rest (a.put op.dst undef) w') : wpList Tryz.prog ops Q (op :: rest) a w := by
  have hz : (Tryz.prog.info? 32).map (·.size) = some 2 := by kernel_rfl
  have hg' : w.heap[g]? = some (.cells cur.toList.toArray 32 (0, 0)) := by rw [Array.toArray_toList]; exact hg
  have hl : k * 2 + (cO (i, j)).length ≤ cur.toList.length := by rw [show (cO (i, j)).length = 2 from rfl]; simpa using (show k * 2 + 2 ≤ cur.size by omega)
  have h1 : ∀ v ∈ cO (i, j), v.oneCell' = true := fun v hv => by simp [cO] at hv; rcases hv with rfl | rfl <;> rfl
  refine wpList_store_mid hgd 32 x y ho g (k * 2) #[.int .u16 i, .int .u16 j] hx hy (there_row hg' hl) (by rw [hz]; rfl) (all_oneCell_toArray (cs := cO (i, j)) h1) ?_
  have e := setCells_row hg' hl h1
  rw [show (#[Value.int .u16 i, Value.int .u16 j] : Array Value).toList = cO (i, j) from rfl, e]
  refine h _ (splice cur.toList (k * 2) (cO (i, j))).toArray (Wrote.setRow _ _ _) (setRow_heap _ _ _ _ _ _ hg) ?_ ?_
  · simp [splice, cO]; omega
  · rw [List.toList_toArray, splice_take (show k * 2 + 2 ≤ _ by omega) (by rw [Array.length_toList]; exact hs), hc, ownC, flat_set (f := cO) (s := 2) (fun x _ => cO_len x) k hk (i, j) (cO_len _)]
    rfl
end Go.Proofs.YtkbeencjklgcnaaGreat
