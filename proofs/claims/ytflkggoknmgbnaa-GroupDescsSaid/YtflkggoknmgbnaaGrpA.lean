/- Slices of owners; contracts of package group: possible, Formed, formedAll. -/
import Derived.Test.YtflkggoknmgbnaaGrpM
import Derived.Test.YtflkggoknmgbnaaBitsE
import Derived.Test.YtflkggoknmgbnaaGeomA
import Derived.Test.YtflkggoknmgbnaaMemF
namespace Go.Proofs.Ytflkggoknmgbnaa
open Go.RowKit BM
set_option linter.unusedVariables false

theorem ret_bool {a b : Bool} (h : a = b) : Ending.returned (.bool a) = .returned (.bool b) := by rw [h]
/-- A value of type []Owner that reads as the owners O. -/
def OwSl (w : World) (v : Value) (O : List (Int × Int)) : Prop :=
  OwB O ∧ ((v = .slice none 0 0 ∧ O = []) ∨ ∃ a cap, v = .slice (some a) O.length cap ∧ ∀ j, j < O.length → a.block < w.heap.size ∧ a.spot = none ∧
    w.cell? ⟨a.block, a.off + j * 2, none⟩ = some (.int .u16 (O.getD j (0, 0)).1) ∧ w.cell? ⟨a.block, a.off + j * 2 + 1, none⟩ = some (.int .u16 (O.getD j (0, 0)).2))
theorem OwSl.below {w w' : World} {v : Value} {O : List (Int × Int)} (h : OwSl w v O) (hb : Below w.heap.size w w') : OwSl w' v O := by
  refine ⟨h.1, ?_⟩
  rcases h.2 with h | ⟨a, cap, hv, hc⟩
  · exact .inl h
  · refine .inr ⟨a, cap, hv, fun j hj => ?_⟩
    obtain ⟨h1, h2, h3, h4⟩ := hc j hj
    exact ⟨Nat.lt_of_lt_of_le h1 hb.size, h2, by rw [hb.cell (p := ⟨a.block, a.off + j * 2, none⟩) h1, h3], by rw [hb.cell (p := ⟨a.block, a.off + j * 2 + 1, none⟩) h1, h4]⟩
theorem OwSl.shape {w : World} {v : Value} {O : List (Int × Int)} (h : OwSl w v O) : ∃ ao cap, v = .slice ao O.length cap := by
  rcases h.2 with ⟨hv, hk⟩ | ⟨a, cap, hv, _⟩
  · exact ⟨none, 0, by rw [hv, hk]; rfl⟩
  · exact ⟨some a, cap, hv⟩
/-- The same, of a list that is not empty. -/
theorem OwSl.at {w : World} {v : Value} {O : List (Int × Int)} (h : OwSl w v O) (hO : 0 < O.length) : ∃ b off cap, v = .slice (some ⟨b, off, none⟩) O.length cap ∧ b < w.heap.size ∧
    ∀ j, j < O.length → w.cell? ⟨b, off + j * 2, none⟩ = some (.int .u16 (O.getD j (0, 0)).1) ∧ w.cell? ⟨b, off + j * 2 + 1, none⟩ = some (.int .u16 (O.getD j (0, 0)).2) := by
  rcases h.2 with ⟨_, hk⟩ | ⟨⟨b, off, spot⟩, cap, hv, hc⟩
  · rw [hk] at hO; simp at hO
  · obtain ⟨h1, h2, _⟩ := hc 0 hO
    obtain rfl : spot = none := h2
    exact ⟨b, off, cap, hv, h1, fun j hj => (hc j hj).2.2⟩

/-- The cells of an owner; of a list of owners. -/
def cO (x : Int × Int) : List Value := [.int .u16 x.1, .int .u16 x.2]
def ownC (O : List (Int × Int)) : List Value := O.flatMap cO
theorem cO_len : ∀ x : Int × Int, (cO x).length = 2 := fun _ => rfl
theorem ownC_length (O : List (Int × Int)) : (ownC O).length = O.length * 2 := flat_length fun x _ => cO_len x
theorem ownC_append (O P : List (Int × Int)) : ownC (O ++ P) = ownC O ++ ownC P := List.flatMap_append
theorem ownC_get (O : List (Int × Int)) (j : Nat) (h : j < O.length) : (ownC O)[j * 2]? = some (.int .u16 (O.getD j (0, 0)).1) ∧ (ownC O)[j * 2 + 1]? = some (.int .u16 (O.getD j (0, 0)).2) := by
  have hg := flat_get (f := cO) (s := 2) (L := O) (fun x _ => cO_len x) j h
  have e : O.getD j (0, 0) = O[j] := by simp [List.getD_eq_getElem?_getD, h]
  rw [e]
  have h0 := congrArg (fun z => z[0]?) hg
  have h1 := congrArg (fun z => z[1]?) hg
  simp only [List.getElem?_take, List.getElem?_drop, Nat.add_zero] at h0 h1
  rw [if_pos (by omega)] at h0 h1
  exact ⟨h0, h1⟩
/-- A []Owner of one's own, from block B on, that reads as O. -/
def OwR (w : World) (B : Nat) (v : Value) (O : List (Int × Int)) : Prop := OwB O ∧ w.ownsRow B 49 2 v O.length (ownC O)
theorem OwR.sl {w : World} {B : Nat} {v : Value} {O : List (Int × Int)} (h : OwR w B v O) : OwSl w v O := by
  refine ⟨h.1, ?_⟩
  rcases h.2.2 with ⟨hv, hl⟩ | ⟨g, cap, cur, hv, hg, hh, hnc, hcm, hcs, ht⟩
  · exact .inl ⟨hv, List.eq_nil_of_length_eq_zero hl⟩
  · refine .inr ⟨_, cap, hv, fun j hj => ⟨(Array.getElem?_eq_some_iff.1 hh).1, rfl, ?_⟩⟩
    obtain ⟨h1, h2⟩ := ownC_get O j hj
    rw [← ht, List.getElem?_take] at h1 h2
    rw [if_pos (by omega)] at h1 h2
    rw [Nat.zero_add, cell_of_row _ _ _ _ _ _ hh, cell_of_row _ _ _ _ _ _ hh]
    exact ⟨by simpa using h1, by simpa using h2⟩
theorem OwR.more {w : World} {B B' : Nat} {v : Value} {O : List (Int × Int)} (h : OwR w B v O) (hB : B' ≤ B) : OwR w B' v O := by
  refine ⟨h.1, h.2.1, ?_⟩
  rcases h.2.2 with h | ⟨g, cap, cur, hv, hg, r⟩
  · exact .inl h
  · exact .inr ⟨g, cap, cur, hv, Nat.le_trans hB hg, r⟩
theorem OwR.below {w w' : World} {B : Nat} {v : Value} {O : List (Int × Int)} (h : OwR w B v O) (hb : Below w.heap.size w w') : OwR w' B v O := by
  refine ⟨h.1, h.2.1, ?_⟩
  rcases h.2.2 with h | ⟨g, cap, cur, hv, hg, hh, r⟩
  · exact .inl h
  · exact .inr ⟨g, cap, cur, hv, hg, by rw [hb.block g (Array.getElem?_eq_some_iff.1 hh).1]; exact hh, r⟩
theorem OwR.of_row {w : World} {B g : Nat} {O : List (Int × Int)} (hb : OwB O) (hB : B ≤ g) (hg : w.heap[g]? = some (.cells (ownC O).toArray 49 (0, 0))) (hm : O.length ≤ maxLen) :
    OwR w B (.slice (some ⟨g, 0, none⟩) O.length O.length) O := by
  refine ⟨hb, ownC_length O, .inr ⟨g, O.length, _, rfl, hB, hg, Nat.le_refl _, hm, by simp [ownC_length], ?_⟩⟩
  rw [List.take_of_length_le (by simp [ownC_length])]

theorem infoOw : (Try.prog.info? 49).map (fun i => (i.zero, i.size, i.bytes)) = some (some (.agg #[.int .u16 0, .int .u16 0]), 2, 4) := by kernel_rfl
theorem made_ow (n : Nat) : madeCells (Value.agg #[.int .u16 0, .int .u16 0]).cells (n * 2) = (ownC (List.replicate n (0, 0))).toArray := by
  have e : ownC (List.replicate n (0, 0)) = List.replicate (n * 2) (.int .u16 0) := by
    apply List.ext_getElem?
    intro i
    by_cases h : i < n * 2
    · have h2 : i / 2 < (List.replicate n ((0 : Int), (0 : Int))).length := by simp; omega
      have hz : (List.replicate n ((0 : Int), (0 : Int))).getD (i / 2) (0, 0) = (0, 0) := by
        rw [List.getD_eq_getElem?_getD, List.getElem?_replicate]; split <;> rfl
      obtain ⟨h3, h4⟩ := ownC_get _ _ h2
      rw [hz] at h3 h4
      rw [List.getElem?_replicate, if_pos h]
      rcases Nat.mod_two_eq_zero_or_one i with e | e
      · rw [show i = i / 2 * 2 by omega]; exact h3
      · rw [show i = i / 2 * 2 + 1 by omega]; exact h4
    · rw [List.getElem?_eq_none (by rw [ownC_length]; simp; omega), List.getElem?_eq_none (by simp; omega)]
  rw [e]
  apply Array.ext
  · simp [size_madeCells]
  · intro i h1 h2
    simp only [madeCells, Value.cells, Array.getElem_map, Array.getElem_range]
    simp
    have : i % 2 = 0 ∨ i % 2 = 1 := by omega
    rcases this with e | e <;> rw [e] <;> rfl
/-- make([]Owner, n). -/
theorem wpList_make_ow (w : World) {ops : Array Oper} {rest : List Oper} {o : Oper} {a : Act} {Q : Exit → Act → World → Prop}
    (hg : o.guard = none) (l c : Operand) (hop : o.op = Op.makeSlice 41 l c) (C : Int) (n : Nat) (hl : a.eval l = .int .i64 C) (hc : a.eval c = .int .i64 C) (hC : C = n) (hn : n ≤ 1000000)
    (hK : wpList Try.prog ops Q rest (a.put o.dst (.slice (some ⟨w.heap.size, 0, none⟩) n n)) (w.alloc (.cells (ownC (List.replicate n (0, 0))).toArray 49))) :
    wpList Try.prog ops Q (o :: rest) a w := by
  refine wpList_plain hg fun K hK' => ?_
  obtain ⟨i, h2, h3, h4, h5⟩ := info_parts infoOw
  subst hC
  have hrun := run_make (P := Try.prog) w 41 49 i (.agg #[.int .u16 0, .int .u16 0]) Try.underlying41 h2 h3 .i64 .i64 n n (by omega) (by omega) (by rw [h5]; omega) (by omega)
  unfold Oper.wp
  simp only [Int.toNat_natCast, h4, made_ow] at hrun
  simp [execOp, hop, hl, hc, hrun, Result.andThen]
  exact hK' _ _ hK
/-- A struct into a row of owners that is known whole. -/
theorem wpList_store_ow {ops : Array Oper} {rest : List Oper} {op : Oper} {a : Act} {w : World} {Q : Exit → Act → World → Prop} (hgd : op.guard = none) (x y : Operand) (ho : op.op = .store 49 x y)
    (g k : Nat) (O : List (Int × Int)) (i j : Int) (hx : a.eval x = .pointer (some ⟨g, k * 2, none⟩)) (hy : a.eval y = .agg #[.int .u16 i, .int .u16 j])
    (hg : w.heap[g]? = some (.cells (ownC O).toArray 49 (0, 0))) (hk : k < O.length)
    (h : ∀ w', Wrote w w' g → w'.heap[g]? = some (.cells (ownC (O.set k (i, j))).toArray 49 (0, 0)) → wpList Try.prog ops Q rest (a.put op.dst undef) w') : wpList Try.prog ops Q (op :: rest) a w := by
  have hs : (Try.prog.info? 49).map (·.size) = some 2 := by kernel_rfl
  have hl : k * 2 + (cO (i, j)).length ≤ (ownC O).length := by rw [ownC_length, cO_len]; omega
  have h1 : ∀ v ∈ cO (i, j), v.oneCell' = true := fun v hv => by simp [cO] at hv; rcases hv with rfl | rfl <;> rfl
  refine wpList_store_mid hgd 49 x y ho g (k * 2) #[.int .u16 i, .int .u16 j] hx hy (there_row hg hl) (by rw [hs]; rfl) (all_oneCell_toArray (cs := cO (i, j)) h1) ?_
  have e := setCells_row hg hl h1
  rw [show (#[Value.int .u16 i, Value.int .u16 j] : Array Value).toList = cO (i, j) from rfl, e]
  refine h _ (Wrote.setRow _ _ _) ?_
  rw [setRow_heap _ _ _ _ _ _ hg, ownC, flat_set (f := cO) (s := 2) (fun x _ => cO_len x) k hk (i, j) (cO_len _)]
  rfl
/-- append of one owner onto owners of one's own (its cells lie in the block that was made last). -/
theorem wpList_append_ow (w1 : World) (i j : Int) (hi : 0 ≤ i ∧ i ≤ 65535) (hj : 0 ≤ j ∧ j ≤ 65535) {ops : Array Oper} {rest : List Oper} {o : Oper} {a : Act} {Q : Exit → Act → World → Prop} (hgd : o.guard = none) (s y : Operand)
    (ho : o.op = .call { callee := .builtin .append, args := #[s, y], argTypes := #[41, 41] })
    (B : Nat) (v : Value) (O : List (Int × Int)) (hs : a.eval s = v) (hown : OwR w1 B v O) (hO : O.length ≤ 1000000) (hy : a.eval y = .slice (some ⟨w1.heap.size, 0, none⟩) 1 1) (hB : B ≤ w1.heap.size)
    (h : ∀ v' w', OwR w' B v' (O ++ [(i, j)]) → Below B w1 w' → wpList Try.prog ops Q rest (a.put o.dst v') w') : wpList Try.prog ops Q (o :: rest) a (w1.alloc (.cells #[.int .u16 i, .int .u16 j] 49)) := by
  obtain ⟨t, h2, h3, h4, h5⟩ := info_parts infoOw
  have hbel : Below w1.heap.size w1 (w1.alloc (.cells #[.int .u16 i, .int .u16 j] 49)) := below_box _ _
  have hnew : (w1.alloc (.cells #[.int .u16 i, .int .u16 j] 49)).heap[w1.heap.size]? = some (.cells #[.int .u16 i, .int .u16 j] 49 (0, 0)) := heap_alloc_new w1 _
  have hf := hown.below hbel
  refine wpList_append_own _ hgd s y 41 ho B 49 t _ 2 4 Try.underlying41 h2 h3 h4 h5 rfl (by decide) v O.length _ hs hf.2 ⟨w1.heap.size, 0, none⟩ 1 1 [.int .u16 i, .int .u16 j] hy rfl ?_ ?_ (by simp only [maxLen]; omega) (by omega) (by simp; omega) fun v' w' h6 h7 _ => ?_
  · intro m u hm
    have hm2 : m < 2 := by simpa using (List.getElem?_eq_some_iff.1 hm).1
    rw [Addr.add_lit, Nat.zero_add, cell_of_row _ _ _ _ _ _ hnew, ← hm]
    have : m = 0 ∨ m = 1 := by omega
    rcases this with rfl | rfl <;> rfl
  · intro u hu
    simp at hu
    rcases hu with rfl | rfl <;> rfl
  · refine h v' w' ⟨owB_of fun m hm => ?_, ?_⟩ ((hbel.mono hB).trans ((Below.refl _ _).grown h7 (by simp; omega) fun k hk => (World.ownsRow.lt hf.2 k hk).1))
    · by_cases e : m < O.length
      · have := hown.1 m
        rw [List.getD_eq_getElem?_getD, List.getElem?_append_left e, ← List.getD_eq_getElem?_getD]; exact this
      · have e2 : m = O.length := by simp at hm; omega
        subst e2
        rw [List.getD_eq_getElem?_getD, List.getElem?_append_right (Nat.le_refl _)]; simpa using ⟨hi, hj⟩
    · rw [List.length_append, ownC_append]; exact h6

theorem grPoss_yes (g : Int) (h1 : 0 ≤ g) (h2 : g < 12) (w : World) : Calls Try.prog 24 #[.int .i64 g] w fun e w' => e = .returned (.bool true) ∧ w = w' := by
  go_enter Try.func24, Try.ntmps24
  go_wp2
  go_ret
  exact ⟨rfl, rfl⟩
theorem grPoss_no (g : Int) (h : ¬ (0 ≤ g ∧ g < 12)) (w : World) : Calls Try.prog 24 #[.int .i64 g] w fun e w' => e = .returned (.bool false) ∧ w = w' := by
  by_cases h0 : 0 ≤ g
  · have h1 : ¬ g < 12 := fun h2 => h ⟨h0, h2⟩
    go_enter Try.func24, Try.ntmps24
    go_wp2
    go_ret
    exact ⟨rfl, rfl⟩
  · clear h
    go_enter Try.func24, Try.ntmps24
    go_wp2
    go_ret
    exact ⟨rfl, rfl⟩

theorem grForm_any (i a : Int) (hi0 : 0 ≤ i) (hi : i ≤ 65535) (ha0 : 0 ≤ a) (ha : a ≤ 65535) (w : World) :
    Calls Try.prog 18 #[.agg #[.int .u16 i, .int .u16 a]] w fun e w' => e = .returned (.bool (frmO i a)) ∧ Below w.heap.size w w' := by
  have hob := below_box w (.cells #[.int .u16 i, .int .u16 a] 49)
  obtain ⟨B, hB⟩ : ∃ B, B = frmO i a := ⟨_, rfl⟩
  rw [← hB]
  unfold frmO at hB
  by_cases h0 : i = 0
  · rw [if_pos (.inl h0)] at hB
    subst h0
    cases hd : decide (a = 0)
    all_goals
      rw [hd] at hB
      have HB := Lib.hid hB
      have hda : (a == 0) = _ := hd
      clear hB hd
      go_enter Try.func18, Try.ntmps18
      go_wp2
      go_ret
      exact ⟨by rw [HB.out]; rfl, hob⟩
  · have e0 : (i == 0) = false := by simpa using h0
    by_cases h1 : i = 65535
    · rw [if_pos (.inr h1)] at hB
      subst h1
      cases hd : decide (a = 0)
      all_goals
        rw [hd] at hB
        have HB := Lib.hid hB
        have hda : (a == 0) = _ := hd
        clear hB hd h0
        go_enter Try.func18, Try.ntmps18
        go_wp2
        go_ret
        exact ⟨by rw [HB.out]; rfl, hob⟩
    · rw [if_neg (by omega)] at hB
      have e1 : (i == 65535) = false := by simpa using h1
      by_cases h2 : i = 65534
      · rw [if_pos h2] at hB
        subst h2
        cases hd : decide (a < 6)
        all_goals
          rw [hd] at hB
          have HB := Lib.hid hB
          clear hB h0 h1
          go_enter Try.func18, Try.ntmps18
          go_wp2
          go_ret
          exact ⟨by rw [HB.out]; rfl, hob⟩
      · rw [if_neg h2] at hB
        have e2 : (i == 65534) = false := by simpa using h2
        clear h0 h1 h2
        by_cases h3 : i < 48
        · by_cases h4 : a < 138
          · have HB : Hid (B = true) := Lib.hid (by rw [hB]; simp [h3, h4])
            clear hB
            go_enter Try.func18, Try.ntmps18
            go_wp2
            go_ret
            exact ⟨by rw [HB.out]; rfl, hob⟩
          · have hda : (a == 65535) = B := by rw [hB, decide_eq_true h3, decide_eq_false h4]; rfl
            have hb2 : B = true ∨ B = false := by cases B <;> simp
            clear hB
            rcases hb2 with rfl | rfl
            all_goals
              go_enter Try.func18, Try.ntmps18
              go_wp2
              go_ret
              exact ⟨rfl, hob⟩
        · have HB : Hid (B = false) := Lib.hid (by rw [hB]; simp [h3])
          clear hB
          go_enter Try.func18, Try.ntmps18
          go_wp2
          go_ret
          exact ⟨by rw [HB.out]; rfl, hob⟩

theorem grForm_is (i a : Int) (hi : 0 ≤ i ∧ i ≤ 65535) (ha : 0 ≤ a ∧ a ≤ 65535) (B : Bool) (h : frmO i a = B) (w : World) :
    Calls Try.prog 18 #[.agg #[.int .u16 i, .int .u16 a]] w fun e w' => e = .returned (.bool B) ∧ Below w.heap.size w w' := by
  rw [← h]; exact grForm_any i a hi.1 hi.2 ha.1 ha.2 w

theorem grAll_len {w : World} (ao : Option Addr) (len cap : Nat) (h : len ≠ 64) : Calls Try.prog 43 #[.slice ao len cap] w fun e w' => e = .returned (.bool false) ∧ w = w' := by
  have hne : ((len : Int) != 64) = true := by simp; omega
  go_enter Try.func43, Try.ntmps43
  go_wp2
  go_ret
  exact ⟨rfl, rfl⟩
theorem grAll_64 {w : World} {b off cap : Nat} {O : List (Int × Int)} (hO : O.length = 64) (hB : OwB O) (hb : b < w.heap.size)
    (hc : ∀ j, j < O.length → w.cell? ⟨b, off + j * 2, none⟩ = some (.int .u16 (O.getD j (0, 0)).1) ∧ w.cell? ⟨b, off + j * 2 + 1, none⟩ = some (.int .u16 (O.getD j (0, 0)).2)) :
    Calls Try.prog 43 #[.slice (some ⟨b, off, none⟩) 64 cap] w fun e w' => e = .returned (.bool (allO O)) ∧ Below w.heap.size w w' := by
  obtain ⟨R, hR⟩ : ∃ R, R = allO O := ⟨_, rfl⟩
  rw [← hR]
  have HC := Lib.hid hc
  have HO := Lib.hid hO
  have HBB := Lib.hid hB
  have hRR : R = frmK O 64 := by rw [hR, allO, hO]; rfl
  have HR := Lib.hid hRR
  clear hc hO hB hR hRR
  go_enter Try.func43, Try.ntmps43
  go_wp2
  go_loopw [10] (fun i wr => ∃ k : Nat, k ≤ 64 ∧ i = .int .i64 k ∧ Hid (frmK O k = true) ∧ Below w.heap.size w wr) (fun i _ => 64 - (intOf i).toNat)
  case atStart => exact ⟨0, by omega, rfl, rfl, Below.refl _ _⟩
  case round =>
    obtain ⟨k, hk, rfl, HK, hbr⟩ := hrel
    by_cases hlt : k < 64
    · have hck := HC.out k (by rw [HO.out]; exact hlt)
      have hbd := HBB.out k
      have hj : frmJ O k = frmO (O.getD k (0, 0)).1 (O.getD k (0, 0)).2 := rfl
      obtain ⟨x, hx⟩ : ∃ x, x = (O.getD k (0, 0)).1 := ⟨_, rfl⟩
      obtain ⟨y, hy⟩ : ∃ y, y = (O.getD k (0, 0)).2 := ⟨_, rfl⟩
      rw [← hx, ← hy] at hck hbd hj
      have c1 := (hbr.cell (p := ⟨b, off + k * 2, none⟩) hb).trans hck.1
      have c2 := (hbr.cell (p := ⟨b, off + k * 2 + 1, none⟩) hb).trans hck.2
      have ek : (k : Int) < 64 := by omega
      clear hx hy hck
      cases hf : frmO x y
      · have HF := Lib.hid hf
        rw [hf] at hj
        have HJ := Lib.hid hj
        clear hf hj
        go_wp2_with (go_at_call 18; refine (grForm_is x y hbd.1 hbd.2 false HF.out _).mono ?_; rintro e w2 ⟨rfl, hb2⟩)
        go_ret
        exact ⟨ret_bool (by rw [HR.out, frmK_no HJ.out hlt]), (hbr.trans ((below_box _ _).mono hbr.size)).trans (hb2.mono (by have := hbr.size; simp; omega))⟩
      · have HF := Lib.hid hf
        rw [hf] at hj
        have HJ := Lib.hid hj
        clear hf hj
        go_wp2_with (go_at_call 18; refine (grForm_is x y hbd.1 hbd.2 true HF.out _).mono ?_; rintro e w2 ⟨rfl, hb2⟩)
        go_roundw
        case rel => exact ⟨k + 1, by omega, by go_num, by show frmK O (k + 1) = true; rw [frmK, HK.out, HJ.out]; rfl, (hbr.trans ((below_box _ _).mono hbr.size)).trans (hb2.mono (by have := hbr.size; simp; omega))⟩
        case measure => simp [intOf]; omega
    · obtain rfl : k = 64 := by omega
      go_wp2
      go_ret
      exact ⟨ret_bool (by rw [HR.out, HK.out]), hbr⟩

theorem grAll_any {w : World} {v : Value} {O : List (Int × Int)} (hs : OwSl w v O) : Calls Try.prog 43 #[v] w fun e w' => e = .returned (.bool (allO O)) ∧ Below w.heap.size w w' := by
  by_cases h : O.length = 64
  · obtain ⟨b, off, cap, rfl, hb, hc⟩ := hs.at (by omega)
    rw [h]
    exact grAll_64 h hs.1 hb hc
  · obtain ⟨ao, cap, rfl⟩ := hs.shape
    refine (grAll_len ao _ cap h).mono fun e w' ⟨he, hw⟩ => ⟨?_, by rw [← hw]; exact Below.refl _ _⟩
    rw [he, allO, decide_eq_false h]; rfl

end Go.Proofs.Ytflkggoknmgbnaa
