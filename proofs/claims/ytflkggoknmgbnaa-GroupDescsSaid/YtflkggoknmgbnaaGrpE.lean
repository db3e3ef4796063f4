/- Structs of two cells; contracts: group's Of, the law's desc. -/
import Derived.Test.YtflkggoknmgbnaaGrpD
import Derived.Test.YtflkggoknmgbnaaBitsC
import Derived.Laws.ResultCell
import Derived.Laws.Tables
import Derived.Laws.Rows
namespace Go.Proofs.Ytflkggoknmgbnaa
open Go.RowKit BM
set_option linter.unusedVariables false

theorem sizeD : (Try.prog.info? 30).map (·.size) = some 2 := by kernel_rfl
theorem sizeRD : (Try.prog.info? 34).map (·.size) = some 2 := by kernel_rfl
theorem one2 {p q : Value} (hp : p.oneCell' = true) (hq : q.oneCell' = true) : (#[p, q] : Array Value).all (·.oneCell') = true := by simp [hp, hq]
/-- A struct of two cells into a variable; out of it; as a result. -/
theorem wpList_store2 {ops : Array Oper} {rest : List Oper} {o : Oper} {a : Act} {w : World} {Q : Exit → Act → World → Prop} (hgd : o.guard = none) (ty : TypeId) (hi : (Try.prog.info? ty).map (·.size) = some 2) (x y : Operand) (ho : o.op = .store ty x y)
    (g : Nat) (hx : a.eval x = .pointer (some ⟨g, 0, none⟩)) (p q p' q' : Value) (hy : a.eval y = .agg #[p, q]) (hp : p.oneCell' = true) (hq : q.oneCell' = true) (T : TypeId) (hg : w.heap[g]? = some (.cells #[p', q'] T (0, 0)))
    (h : ∀ w', Wrote w w' g → w'.heap[g]? = some (.cells #[p, q] T (0, 0)) → wpList Try.prog ops Q rest (a.put o.dst undef) w') : wpList Try.prog ops Q (o :: rest) a w :=
  wpList_store_row hgd ty x y ho g #[p, q] hx hy T _ hg hi rfl (one2 hp hq) (h _ (Wrote.setRow _ _ _) (setRow_heap _ _ _ _ _ _ hg))
theorem ret_cell2 {fn : Func} {p u : Tmp} {ty : TypeId} {fs} (h : fn.results = #[.cell p ty, .tmp u]) (hu : Try.prog.underlying ty = some (.struct fs)) (hi : (Try.prog.info? ty).map (·.size) = some 2)
    (tmps : Array Value) (w : World) (g : Nat) (T : TypeId) (a b x : Value) (hp : tmps.getD p undef = .pointer (some ⟨g, 0, none⟩)) (hg : w.heap[g]? = some (.cells #[a, b] T (0, 0))) (hx : tmps.getD u undef = x) :
    (results fn tmps).run Try.prog w = .ok (.tuple #[.agg #[a, b], x]) w := by
  rw [results_cell_tmp h, hp, hx]
  simp only [asAddr, Sem.run_pure, Result.andThen_ok]
  rw [run_loadVar_row w g T ty _ (0, 0) _ hg hu rfl (by rw [hi]; rfl)]
  rfl
theorem below_hold {w w1 : World} {g : Nat} {o : Obj} (h : w.heap[g]? = some o) (hb : Below w.heap.size w w1) : w1.heap[g]? = some o := (hb.block _ (Array.getElem?_eq_some_iff.1 h).1).trans h

/-- A row of 64 bits of which the first k are laid. -/
def preB (f : Nat → Bool) (k : Nat) : List Bool := (List.range 64).map fun i => if i < k then f i else false
theorem preB_length (f : Nat → Bool) (k : Nat) : (preB f k).length = 64 := by simp [preB]
theorem preB_set (f : Nat → Bool) (k : Nat) : (preB f k).set k (f k) = preB f (k + 1) := by
  apply List.ext_getElem (by simp [preB])
  intro i h1 h2
  simp only [preB, List.getElem_set, List.getElem_map, List.getElem_range]
  by_cases e : k = i
  · subst e; rw [if_pos rfl, if_pos (by omega)]
  · rw [if_neg e]
    by_cases h : i < k
    · rw [if_pos h, if_pos (by omega)]
    · rw [if_neg h, if_neg (by omega)]
theorem preB_zero (f : Nat → Bool) : preB f 0 = List.replicate 64 false := by
  rw [List.eq_replicate_iff]
  refine ⟨preB_length f 0, fun b hb => ?_⟩
  obtain ⟨i, _, rfl⟩ := List.mem_map.1 hb
  rw [if_neg (by omega)]
theorem preB_full (f : Nat → Bool) : preB f 64 = (List.range 64).map f := by
  unfold preB
  apply List.map_congr_left
  intro i hi
  rw [if_pos (List.mem_range.1 hi)]

/-- What Of hands back. -/
def OfOut (g : Int) (O : List (Int × Int)) (w : World) (e : Ending) (w' : World) : Prop :=
  (((0 ≤ g ∧ g < 12) ∧ allO O = true) ∧ ∃ p r, e = .returned (.tuple #[.agg #[.int .i64 g, .pointer (some ⟨p, 0, none⟩)], .int .i64 0]) ∧ BRow w' p r (usedK O 64) ∧ Below w.heap.size w w') ∨
  (¬ ((0 ≤ g ∧ g < 12) ∧ allO O = true) ∧ e = .returned (.tuple #[.agg #[.int .i64 0, .pointer none], .int .i64 1]) ∧ Below w.heap.size w w')
theorem grOf_bad {w : World} {v : Value} {O : List (Int × Int)} (hs : OwSl w v O) (g : Int) (h : ¬ ((0 ≤ g ∧ g < 12) ∧ allO O = true)) :
    Calls Try.prog 20 #[.int .i64 g, v] w fun e w' => e = .returned (.tuple #[.agg #[.int .i64 0, .pointer none], .int .i64 1]) ∧ Below w.heap.size w w' := by
  have hb1 := below_box w (.cells #[.int .i64 0, .pointer none] 30)
  have hr1 := heap_alloc_new w (.cells #[.int .i64 0, .pointer none] 30)
  obtain ⟨w1, hw1⟩ : ∃ w1, w1 = w.alloc (.cells #[.int .i64 0, .pointer none] 30) := ⟨_, rfl⟩
  rw [← hw1] at hb1 hr1
  have H1 := Lib.hid hw1.symm
  have HR1 := Lib.hid hr1
  have hs1 := hs.below hb1
  by_cases hg : 0 ≤ g ∧ g < 12
  · have ha : allO O = false := by cases hb : allO O <;> simp_all
    have HA := Lib.hid (grAll_is hs1 false ha)
    obtain ⟨hg1, hg2⟩ := hg
    clear hs hs1 h ha hw1 hr1
    go_enter Try.func20, Try.ntmps20
    go_wp2_with (first
      | (go_at_call 24; rw [H1.out]; refine (grPoss_yes g hg1 hg2 _).mono ?_; rintro e w2 ⟨rfl, rfl⟩)
      | (go_at_call 43; refine HA.out.mono ?_; rintro e w2 ⟨rfl, hb2⟩; have hr2 := below_hold HR1.out hb2)
      | (with_reducible refine wpList_store2 rfl 30 sizeD (.tmp 4) (.tmp 17) rfl w.heap.size rfl _ _ _ _ rfl rfl rfl _ hr2 ?_; intro w3 hw3 hr3))
    exact bodyPost_ret (ret_cell2 rfl Try.underlying30 sizeD _ _ w.heap.size _ _ _ _ rfl hr3 rfl) rfl ⟨rfl, (hb1.trans (hb2.mono hb1.size)).trans (hw3.below (Nat.le_refl _))⟩
  · clear hs hs1 h hw1 hr1
    have hr1 := HR1.out
    go_enter Try.func20, Try.ntmps20
    go_wp2_with (first
      | (go_at_call 24; rw [H1.out]; refine (grPoss_no g hg _).mono ?_; rintro e w2 ⟨rfl, rfl⟩)
      | (with_reducible refine wpList_store2 rfl 30 sizeD (.tmp 4) (.tmp 17) rfl w.heap.size rfl _ _ _ _ rfl rfl rfl _ hr1 ?_; intro w3 hw3 hr3))
    exact bodyPost_ret (ret_cell2 rfl Try.underlying30 sizeD _ _ w.heap.size _ _ _ _ rfl hr3 rfl) rfl ⟨rfl, hb1.trans (hw3.below (Nat.le_refl _))⟩
theorem bNew_64 (w : World) : Calls Try.prog 30 #[.int .i64 64] w fun e w' => e = .returned (.pointer (some ⟨w.heap.size + 1, 0, none⟩)) ∧ BRow w' (w.heap.size + 1) w.heap.size (List.replicate 64 false) ∧ Below w.heap.size w w' :=
  (bNew_at 64 64 (by decide) w (by decide)).mono fun _ _ ⟨h1, h2, h3, _⟩ => ⟨h1, h2, h3⟩
theorem bSet_nat {w : World} {p g : Nat} {L : List Bool} (h : BRow w p g L) (i : Nat) (hi : i < L.length) (on : Bool) :
    Calls Try.prog 31 #[.pointer (some ⟨p, 0, none⟩), .int .i64 i, .bool on] w fun e w' => e = .returned (.int .i64 0) ∧ BRow w' p g (L.set i on) ∧ Wrote w w' g :=
  (bSet_any h i on).mono fun e w' he => by rw [if_pos (by omega), if_pos (by omega)] at he; exact he
theorem frm_zero {y : Int} (h : frmO 0 y = true) : y = 0 := by
  unfold frmO at h
  rw [if_pos (.inl rfl)] at h
  exact of_decide_eq_true h
theorem grOf_good {w : World} {v : Value} {O : List (Int × Int)} (hs : OwSl w v O) (g : Int) (hg1 : 0 ≤ g) (hg2 : g < 12) (ha : allO O = true) :
    Calls Try.prog 20 #[.int .i64 g, v] w fun e w' => ∃ p r, e = .returned (.tuple #[.agg #[.int .i64 g, .pointer (some ⟨p, 0, none⟩)], .int .i64 0]) ∧ BRow w' p r (usedK O 64) ∧ Below w.heap.size w w' := by
  have hb1 := below_box w (.cells #[.int .i64 0, .pointer none] 30)
  have hr1 := heap_alloc_new w (.cells #[.int .i64 0, .pointer none] 30)
  obtain ⟨w1, hw1⟩ : ∃ w1, w1 = w.alloc (.cells #[.int .i64 0, .pointer none] 30) := ⟨_, rfl⟩
  rw [← hw1] at hb1 hr1
  have hz1 : w.heap.size < w1.heap.size := by rw [hw1]; simp
  have H1 := Lib.hid hw1.symm
  have HR1 := Lib.hid hr1
  have hs1 := hs.below hb1
  have HA := Lib.hid (grAll_is hs1 true ha)
  have hO := allO_len ha
  obtain ⟨b, off, cap, rfl, hb, hc⟩ := hs.at (by omega)
  have hfr : ∀ j, j < 64 → frmJ O j = true := by
    have : frmK O 64 = true := by rw [allO, hO] at ha; simpa using ha
    exact (frmK_iff O 64).1 this
  have HBB := Lib.hid hs.1
  have HC := Lib.hid hc
  have HO := Lib.hid hO
  have HFR := Lib.hid hfr
  rw [hO] at HA ⊢
  clear hs hs1 hw1 ha hc hO hfr hr1
  go_enter Try.func20, Try.ntmps20
  go_wp2_with (first
    | (go_at_call 24; rw [H1.out]; refine (grPoss_yes g hg1 hg2 _).mono ?_; rintro e w2 ⟨rfl, rfl⟩)
    | (go_at_call 43; refine HA.out.mono ?_; rintro e w2 ⟨rfl, hb2⟩; have hr2 := below_hold HR1.out hb2)
    | (go_at_call 30; refine (bNew_64 _).mono ?_; rintro e w3 ⟨rfl, hrow3, hb3⟩; have hr3 := below_hold hr2 hb3))
  obtain ⟨r, hr⟩ : ∃ r, r = w2.heap.size := ⟨_, rfl⟩
  rw [← hr] at hrow3 ⊢
  obtain ⟨p, hp⟩ : ∃ p, p = r + 1 := ⟨_, rfl⟩
  rw [← hp] at hrow3 ⊢
  have hwr : w.heap.size < r := by have := hb2.size; omega
  have hwp : w.heap.size < p := by omega
  have hb03 : Below w.heap.size w w3 := (hb1.trans (hb2.mono hb1.size)).trans (hb3.mono (by omega))
  rw [← preB_zero (usedJ O)] at hrow3
  have HROW3 := Lib.hid hrow3
  have HR3 := Lib.hid hr3
  clear hr hp hrow3 hr3 hr2 hb3 hb2
  go_loopw [21] (fun i wr => ∃ k : Nat, k ≤ 64 ∧ i = .int .i64 k ∧ Hid (BRow wr p r (preB (usedJ O) k)) ∧ Hid (wr.heap[w.heap.size]? = some (.cells #[.int .i64 0, .pointer none] 30 (0, 0))) ∧ Below w.heap.size w wr) (fun i _ => 64 - (intOf i).toNat)
  case atStart => exact ⟨0, by omega, rfl, HROW3, HR3, hb03⟩
  case round =>
    obtain ⟨k, hk, rfl, HROW, HRC, hbr⟩ := hrel
    clear HROW3 HR3 hb03
    by_cases hlt : k < 64
    · have hck := HC.out k (by rw [HO.out]; exact hlt)
      have hbd := HBB.out k
      have hfk := HFR.out k hlt
      have hus : usedJ O k = decide ((O.getD k (0, 0)).1 ≠ 0) := rfl
      rw [frmJ] at hfk
      obtain ⟨x, hx⟩ : ∃ x, x = (O.getD k (0, 0)).1 := ⟨_, rfl⟩
      obtain ⟨y, hy⟩ : ∃ y, y = (O.getD k (0, 0)).2 := ⟨_, rfl⟩
      rw [← hx, ← hy] at hck hbd hfk
      rw [← hx] at hus
      have c1 := (hbr.cell (p := ⟨b, off + k * 2, none⟩) hb).trans hck.1
      have c2 := (hbr.cell (p := ⟨b, off + k * 2 + 1, none⟩) hb).trans hck.2
      have ek : (k : Int) < 64 := by omega
      have hps := preB_set (usedJ O) k
      rw [hus] at hps
      have HRL := HROW.out.lt
      clear hx hy hck hus
      by_cases h0 : x = 0
      · subst h0
        obtain rfl := frm_zero hfk
        have HPS := Lib.hid hps
        have HSET := Lib.hid (bSet_nat (HROW.out.below (below_box wr (.cells #[.int .u16 0, .int .u16 0] 49)) HRL.1 HRL.2) k (by rw [preB_length]; exact hlt) false)
        clear hfk hps
        go_wp2_with (go_at_call 31; refine HSET.out.mono ?_; rintro e w4 ⟨rfl, hrow4, hw4⟩)
        go_roundw
        case rel => exact ⟨k + 1, by omega, by go_num, by show BRow _ _ _ (preB (usedJ O) (k + 1)); rw [← HPS.out]; exact hrow4, by show w4.heap[w.heap.size]? = _; rw [hw4.2.2.2.2 _ (by omega)]; exact below_hold HRC.out (below_box _ _), (hbr.trans ((below_box _ _).mono hbr.size)).trans (hw4.below (by omega))⟩
        case measure => simp [intOf]; omega
      · have hx0 : (x == 0) = false := by simpa using h0
        rw [decide_eq_true h0] at hps
        have HPS := Lib.hid hps
        have HSET := Lib.hid (bSet_nat (HROW.out.below (below_box wr (.cells #[.int .u16 x, .int .u16 y] 49)) HRL.1 HRL.2) k (by rw [preB_length]; exact hlt) true)
        clear hfk hps h0
        go_wp2_with (go_at_call 31; refine HSET.out.mono ?_; rintro e w4 ⟨rfl, hrow4, hw4⟩)
        go_roundw
        case rel => exact ⟨k + 1, by omega, by go_num, by show BRow _ _ _ (preB (usedJ O) (k + 1)); rw [← HPS.out]; exact hrow4, by show w4.heap[w.heap.size]? = _; rw [hw4.2.2.2.2 _ (by omega)]; exact below_hold HRC.out (below_box _ _), (hbr.trans ((below_box _ _).mono hbr.size)).trans (hw4.below (by omega))⟩
        case measure => simp [intOf]; omega
    · obtain rfl : k = 64 := by omega
      have hrc := HRC.out
      have HRL := HROW.out.lt
      go_wp2_with (with_reducible refine wpList_store2 rfl 30 sizeD (.tmp 4) (.tmp 35) rfl w.heap.size rfl _ _ _ _ rfl rfl rfl _ hrc ?_; intro w5 hw5 hr5)
      refine bodyPost_ret (ret_cell2 rfl Try.underlying30 sizeD _ _ w.heap.size _ _ _ _ rfl hr5 rfl) rfl ⟨p, r, rfl, ?_, hbr.trans (hw5.below (Nat.le_refl _))⟩
      have hrow := HROW.out
      rw [preB_full] at hrow
      exact hrow.of_heap (hw5.2.2.2.2 _ (by omega)) (hw5.2.2.2.2 _ (by omega))
theorem grOf_any {w : World} {v : Value} {O : List (Int × Int)} (hs : OwSl w v O) (g : Int) : Calls Try.prog 20 #[.int .i64 g, v] w (OfOut g O w) := by
  by_cases h : (0 ≤ g ∧ g < 12) ∧ allO O = true
  · exact (grOf_good hs g h.1.1 h.1.2 h.2).mono fun e w' he => .inl ⟨h, he⟩
  · exact (grOf_bad hs g h).mono fun e w' he => .inr ⟨h, he⟩
end Go.Proofs.Ytflkggoknmgbnaa
