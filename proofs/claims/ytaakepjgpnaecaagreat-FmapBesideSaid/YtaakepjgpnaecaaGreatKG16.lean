/- What the law rests on: part 16. -/
import Derived.Test.YtaakepjgpnaecaaGreatKG15
set_option linter.unusedVariables false
namespace Go.Proofs.YtaakepjgpnaecaaGreat
set_option maxRecDepth 100000
open Go.RowKit
def zeroS : List Int := List.replicate 12 0
def DecOut (l : List Int) (w : World) (e : Ending) (w' : World) : Prop :=
  Below w.heap.size w w' ∧ ((hasS l ∧ e = .returned (.tuple #[supV (decS l), .int .i64 0])) ∨ (¬ hasS l ∧ e = .returned (.tuple #[supV zeroS, .int .i64 18])))
theorem top_rd {c : List Int} (hb : Byt c) : Top (rdS c) := fun i => by
  by_cases hi : i < 12
  · rw [num_rdS _ _ hi]; have := getV_fit hb i; omega
  · unfold num; rw [List.getD_eq_getElem?_getD, List.getElem?_eq_none (by rw [rdS_length]; omega)]; decide
theorem sEnc_no {L : List Int} (hL : L.length = 12) (hT : Top L) (h : frmS L = false) (w : World) : Calls Tryz.prog 179 #[supV L] w fun e w' => e = .returned (.tuple #[.slice none 0 0, .int .i64 1]) ∧ Below w.heap.size w w' :=
  (sEnc_of hL hT w).mono fun e w' ho => ho.elim (fun h1 => by rw [h] at h1; cases h1.1) fun h1 => h1.2
theorem sEnc_is {L : List Int} (hL : L.length = 12) (hT : Top L) (h : frmS L = true) (w : World) : Calls Tryz.prog 179 #[supV L] w fun e w' => ∃ v, e = .returned (.tuple #[v, .int .i64 0]) ∧ OB w' w.heap.size v (encS L) ∧ Below w.heap.size w w' :=
  (sEnc_of hL hT w).mono fun e w' ho => ho.elim (fun h1 => h1.2) fun h1 => by rw [h] at h1; cases h1.1
theorem ret_sup2 {fn : Func} {p u : Tmp} (h : fn.results = #[.cell p 155, .tmp u]) (tmps : Array Value) (w : World) (g : Nat) (T : TypeId) (L : List Int) (x : Value) (hL : L.length = 12) (hp : tmps.getD p undef = .pointer (some ⟨g, 0, none⟩)) (hg : w.heap[g]? = some (supO L T)) (hx : tmps.getD u undef = x) :
    (results fn tmps).run Tryz.prog w = .ok (.tuple #[supV L, x]) w := by
  rw [results_cell_tmp h, hp, hx]
  simp only [asAddr, Sem.run_pure, Result.andThen_ok]
  rw [run_loadVar_row w g T 155 _ (0, 0) _ hg Tryz.underlying155 rfl (by rw [infoS]; simp [hL])]
  rfl
theorem sDec_not {w : World} {v : Value} {l : List Int} (hs : BSl w v l) (h : ¬ sealed l) : Calls Tryz.prog 141 #[v] w fun e w' => e = .returned (.tuple #[supV zeroS, .int .i64 18]) ∧ Below w.heap.size w w' := by
  have hb1 := below_box w (supO zeroS 155)
  have hr1 := heap_alloc_new w (supO zeroS 155)
  obtain ⟨w1, hw1⟩ : ∃ w1, w1 = w.alloc (supO zeroS 155) := ⟨_, rfl⟩
  rw [← hw1] at hb1 hr1
  have h1 : w.alloc (.cells #[.int .i64 0, .int .i64 0, .int .i64 0, .int .i64 0, .int .i64 0, .int .i64 0, .int .i64 0, .int .i64 0, .int .i64 0, .int .i64 0, .int .i64 0, .int .i64 0] 155) = w1 := by rw [hw1]; rfl
  have hz1 : w.heap.size < w1.heap.size := by rw [hw1]; simp
  have H1 := Lib.hid h1
  have HR1 := Lib.hid hr1
  have HO := Lib.hid (pOpen_not (hs.below hb1) h)
  clear hs h h1 hw1 hr1
  go_enter Tryz.func141, Tryz.ntmps141
  go_wp2_with (first
    | (go_at_call 177; rw [H1.out]; refine HO.out.mono ?_; rintro e w2 ⟨rfl, hb2⟩
       have hr2 : w2.heap[w.heap.size]? = some (supO zeroS 155) := (hb2.block _ hz1).trans HR1.out)
    | (with_reducible refine wpList_storeS rfl (.tmp 2) (.tmp 16) rfl w.heap.size rfl zeroS zeroS rfl rfl rfl _ hr2 ?_; intro w3 hw3 hr3))
  exact bodyPost_ret (ret_sup2 rfl _ _ w.heap.size _ _ _ rfl rfl hr3 rfl) rfl ⟨rfl, (hb1.trans (hb2.mono hb1.size)).trans (hw3.below (Nat.le_refl _))⟩
theorem sDec_bad {w : World} {v : Value} {l : List Int} (hs : BSl w v l) (h : sealed l) (hf : frmS (rdS (l.take 252)) = false) : Calls Tryz.prog 141 #[v] w fun e w' => e = .returned (.tuple #[supV zeroS, .int .i64 18]) ∧ Below w.heap.size w w' := by
  have hb1 := below_box w (supO zeroS 155)
  have hr1 := heap_alloc_new w (supO zeroS 155)
  obtain ⟨w1, hw1⟩ : ∃ w1, w1 = w.alloc (supO zeroS 155) := ⟨_, rfl⟩
  rw [← hw1] at hb1 hr1
  have h1 : w.alloc (.cells #[.int .i64 0, .int .i64 0, .int .i64 0, .int .i64 0, .int .i64 0, .int .i64 0, .int .i64 0, .int .i64 0, .int .i64 0, .int .i64 0, .int .i64 0, .int .i64 0] 155) = w1 := by rw [hw1]; rfl
  have hz1 : w.heap.size < w1.heap.size := by rw [hw1]; simp
  have H1 := Lib.hid h1
  have HR1 := Lib.hid hr1
  have HO := Lib.hid (pOpen_is (hs.below hb1) h)
  have hlt := take_len h
  have htop := top_rd (byt_take hs.1 252)
  have hrl := rdS_length (l.take 252)
  obtain ⟨c, hc⟩ : ∃ c, c = l.take 252 := ⟨_, rfl⟩
  rw [← hc] at hlt HO hf htop hrl
  obtain ⟨L, hL⟩ : ∃ L, L = rdS c := ⟨_, rfl⟩
  rw [← hL] at hf htop hrl
  have HL := Lib.hid hL
  have HLT := Lib.hid hlt
  have HEN := Lib.hid (sEnc_no hrl htop hf)
  clear hs h h1 hw1 hr1 hc hf htop hlt hL
  go_enter Tryz.func141, Tryz.ntmps141
  go_wp2_with (first
    | (go_at_call 177; rw [H1.out]; refine HO.out.mono ?_; rintro e w2 ⟨v2, rfl, hob2, hb2⟩)
    | (go_at_call 178; refine (sRead_of hob2.bsl HLT.out).mono ?_; rw [← HL.out]; rintro e w3 ⟨rfl, hb3⟩)
    | (with_reducible refine wpList_storeS rfl (.tmp 6) (.tmp 18) rfl w3.heap.size rfl L zeroS rfl hrl rfl _ (heap_alloc_new w3 _) ?_
       intro w5 hw5 hr5
       have hb5 : Below w3.heap.size w3 w5 := (below_box w3 _).trans (hw5.below (Nat.le_refl _)))
    | (with_reducible refine wpList_loadS rfl (.tmp 6) rfl w3.heap.size rfl L hrl _ hr5 ?_)
    | (go_at_call 179; refine (HEN.out _).mono ?_; rintro e w6 ⟨rfl, hb6⟩
       have hz2 := Nat.lt_of_lt_of_le hz1 hb2.size
       have hz3 := Nat.lt_of_lt_of_le hz2 hb3.size
       have hz5 := Nat.lt_of_lt_of_le hz3 hb5.size
       have hr6 : w6.heap[w.heap.size]? = some (supO zeroS 155) := by rw [hb6.block _ hz5, hb5.block _ hz3, hb3.block _ hz2, hb2.block _ hz1]; exact HR1.out
       have hb26 : Below w2.heap.size w2 w6 := (hb3.trans (hb5.mono hb3.size)).trans (hb6.mono (Nat.le_trans hb3.size hb5.size))
       have hb06 : Below w.heap.size w w6 := (hb1.trans (hb2.mono hb1.size)).trans (hb26.mono (Nat.le_trans hb1.size hb2.size))
       clear hz2 hz3 hz5 hb26)
    | (with_reducible refine wpList_storeS rfl (.tmp 2) (.tmp 32) rfl w.heap.size rfl zeroS zeroS rfl rfl rfl _ hr6 ?_; intro w7 hw7 hr7))
  exact bodyPost_ret (ret_sup2 rfl _ _ w.heap.size _ _ _ rfl rfl hr7 rfl) rfl ⟨rfl, hb06.trans (hw7.below (Nat.le_refl _))⟩
theorem sDec_good {w : World} {v : Value} {l : List Int} (hs : BSl w v l) (h : sealed l) (hf : frmS (rdS (l.take 252)) = true) (heq : encS (rdS (l.take 252)) = l) : Calls Tryz.prog 141 #[v] w fun e w' => e = .returned (.tuple #[supV (rdS (l.take 252)), .int .i64 0]) ∧ Below w.heap.size w w' := by
  have hb1 := below_box w (supO zeroS 155)
  have hr1 := heap_alloc_new w (supO zeroS 155)
  obtain ⟨w1, hw1⟩ : ∃ w1, w1 = w.alloc (supO zeroS 155) := ⟨_, rfl⟩
  rw [← hw1] at hb1 hr1
  have h1 : w.alloc (.cells #[.int .i64 0, .int .i64 0, .int .i64 0, .int .i64 0, .int .i64 0, .int .i64 0, .int .i64 0, .int .i64 0, .int .i64 0, .int .i64 0, .int .i64 0, .int .i64 0] 155) = w1 := by rw [hw1]; rfl
  have hz1 : w.heap.size < w1.heap.size := by rw [hw1]; simp
  have H1 := Lib.hid h1
  have HR1 := Lib.hid hr1
  have HS := Lib.hid hs
  have HO := Lib.hid (pOpen_is (hs.below hb1) h)
  have hlt := take_len h
  have htop := top_rd (byt_take hs.1 252)
  have hrl := rdS_length (l.take 252)
  obtain ⟨c, hc⟩ : ∃ c, c = l.take 252 := ⟨_, rfl⟩
  rw [← hc] at hlt HO hf htop hrl heq ⊢
  obtain ⟨L, hL⟩ : ∃ L, L = rdS c := ⟨_, rfl⟩
  rw [← hL] at hf htop hrl heq ⊢
  have HL := Lib.hid hL
  have HLT := Lib.hid hlt
  have HEN := Lib.hid (sEnc_is hrl htop hf)
  have HD : Hid (decide (encS L = l) = true) := Lib.hid (decide_eq_true heq)
  clear hs h h1 hw1 hr1 hc hf htop hlt hL heq
  go_enter Tryz.func141, Tryz.ntmps141
  go_wp2_with (first
    | (go_at_call 177; rw [H1.out]; refine HO.out.mono ?_; rintro e w2 ⟨v2, rfl, hob2, hb2⟩)
    | (go_at_call 178; refine (sRead_of hob2.bsl HLT.out).mono ?_; rw [← HL.out]; rintro e w3 ⟨rfl, hb3⟩)
    | (with_reducible refine wpList_storeS rfl (.tmp 6) (.tmp 18) rfl w3.heap.size rfl L zeroS rfl hrl rfl _ (heap_alloc_new w3 _) ?_
       intro w5 hw5 hr5
       have hb5 : Below w3.heap.size w3 w5 := (below_box w3 _).trans (hw5.below (Nat.le_refl _)))
    | (with_reducible refine wpList_loadS rfl (.tmp 6) rfl w3.heap.size rfl L hrl _ hr5 ?_)
    | (go_at_call 179; refine (HEN.out _).mono ?_; rintro e w6 ⟨v6, rfl, hob6, hb6⟩
       have hz2 := Nat.lt_of_lt_of_le hz1 hb2.size
       have hz3 := Nat.lt_of_lt_of_le hz2 hb3.size
       have hz5 := Nat.lt_of_lt_of_le hz3 hb5.size
       have hr6 : w6.heap[w.heap.size]? = some (supO zeroS 155) := by rw [hb6.block _ hz5, hb5.block _ hz3, hb3.block _ hz2, hb2.block _ hz1]; exact HR1.out
       have hrs6 : w6.heap[w3.heap.size]? = some (supO L 155) := by rw [hb6.block _ (Array.getElem?_eq_some_iff.1 hr5).1]; exact hr5
       have hb26 : Below w2.heap.size w2 w6 := (hb3.trans (hb5.mono hb3.size)).trans (hb6.mono (Nat.le_trans hb3.size hb5.size))
       have hb06 : Below w.heap.size w w6 := (hb1.trans (hb2.mono hb1.size)).trans (hb26.mono (Nat.le_trans hb1.size hb2.size))
       clear hz2 hz3 hz5 hb26)
    | (go_at_call 71; refine (bEqual_of hob6.bsl (HS.out.below hb06)).mono ?_; rw [HD.out]; rintro e w' ⟨rfl, rfl⟩)
    | (with_reducible refine wpList_loadS rfl (.tmp 6) rfl w3.heap.size rfl L hrl _ hrs6 ?_)
    | (with_reducible refine wpList_storeS rfl (.tmp 2) (.tmp 33) rfl w.heap.size rfl L zeroS rfl hrl rfl _ hr6 ?_; intro w7 hw7 hr7))
  exact bodyPost_ret (ret_sup2 rfl _ _ w.heap.size _ _ _ hrl rfl hr7 rfl) rfl ⟨rfl, hb06.trans (hw7.below (Nat.le_refl _))⟩
theorem sDec_other {w : World} {v : Value} {l : List Int} (hs : BSl w v l) (h : sealed l) (hf : frmS (rdS (l.take 252)) = true) (heq : encS (rdS (l.take 252)) ≠ l) : Calls Tryz.prog 141 #[v] w fun e w' => e = .returned (.tuple #[supV zeroS, .int .i64 18]) ∧ Below w.heap.size w w' := by
  have hb1 := below_box w (supO zeroS 155)
  have hr1 := heap_alloc_new w (supO zeroS 155)
  obtain ⟨w1, hw1⟩ : ∃ w1, w1 = w.alloc (supO zeroS 155) := ⟨_, rfl⟩
  rw [← hw1] at hb1 hr1
  have h1 : w.alloc (.cells #[.int .i64 0, .int .i64 0, .int .i64 0, .int .i64 0, .int .i64 0, .int .i64 0, .int .i64 0, .int .i64 0, .int .i64 0, .int .i64 0, .int .i64 0, .int .i64 0] 155) = w1 := by rw [hw1]; rfl
  have hz1 : w.heap.size < w1.heap.size := by rw [hw1]; simp
  have H1 := Lib.hid h1
  have HR1 := Lib.hid hr1
  have HS := Lib.hid hs
  have HO := Lib.hid (pOpen_is (hs.below hb1) h)
  have hlt := take_len h
  have htop := top_rd (byt_take hs.1 252)
  have hrl := rdS_length (l.take 252)
  obtain ⟨c, hc⟩ : ∃ c, c = l.take 252 := ⟨_, rfl⟩
  rw [← hc] at hlt HO hf htop hrl heq
  obtain ⟨L, hL⟩ : ∃ L, L = rdS c := ⟨_, rfl⟩
  rw [← hL] at hf htop hrl heq
  have HL := Lib.hid hL
  have HLT := Lib.hid hlt
  have HEN := Lib.hid (sEnc_is hrl htop hf)
  have HD : Hid (decide (encS L = l) = false) := Lib.hid (decide_eq_false heq)
  clear hs h h1 hw1 hr1 hc hf htop hlt hL heq
  go_enter Tryz.func141, Tryz.ntmps141
  go_wp2_with (first
    | (go_at_call 177; rw [H1.out]; refine HO.out.mono ?_; rintro e w2 ⟨v2, rfl, hob2, hb2⟩)
    | (go_at_call 178; refine (sRead_of hob2.bsl HLT.out).mono ?_; rw [← HL.out]; rintro e w3 ⟨rfl, hb3⟩)
    | (with_reducible refine wpList_storeS rfl (.tmp 6) (.tmp 18) rfl w3.heap.size rfl L zeroS rfl hrl rfl _ (heap_alloc_new w3 _) ?_
       intro w5 hw5 hr5
       have hb5 : Below w3.heap.size w3 w5 := (below_box w3 _).trans (hw5.below (Nat.le_refl _)))
    | (with_reducible refine wpList_loadS rfl (.tmp 6) rfl w3.heap.size rfl L hrl _ hr5 ?_)
    | (go_at_call 179; refine (HEN.out _).mono ?_; rintro e w6 ⟨v6, rfl, hob6, hb6⟩
       have hz2 := Nat.lt_of_lt_of_le hz1 hb2.size
       have hz3 := Nat.lt_of_lt_of_le hz2 hb3.size
       have hz5 := Nat.lt_of_lt_of_le hz3 hb5.size
       have hr6 : w6.heap[w.heap.size]? = some (supO zeroS 155) := by rw [hb6.block _ hz5, hb5.block _ hz3, hb3.block _ hz2, hb2.block _ hz1]; exact HR1.out
       have hrs6 : w6.heap[w3.heap.size]? = some (supO L 155) := by rw [hb6.block _ (Array.getElem?_eq_some_iff.1 hr5).1]; exact hr5
       have hb26 : Below w2.heap.size w2 w6 := (hb3.trans (hb5.mono hb3.size)).trans (hb6.mono (Nat.le_trans hb3.size hb5.size))
       have hb06 : Below w.heap.size w w6 := (hb1.trans (hb2.mono hb1.size)).trans (hb26.mono (Nat.le_trans hb1.size hb2.size))
       clear hz2 hz3 hz5 hb26)
    | (go_at_call 71; refine (bEqual_of hob6.bsl (HS.out.below hb06)).mono ?_; rw [HD.out]; rintro e w' ⟨rfl, rfl⟩)
    | (with_reducible refine wpList_storeS rfl (.tmp 2) (.tmp 32) rfl w.heap.size rfl zeroS zeroS rfl rfl rfl _ hr6 ?_; intro w7 hw7 hr7))
  exact bodyPost_ret (ret_sup2 rfl _ _ w.heap.size _ _ _ rfl rfl hr7 rfl) rfl ⟨rfl, hb06.trans (hw7.below (Nat.le_refl _))⟩
theorem sDec_of {w : World} {v : Value} {l : List Int} (hs : BSl w v l) : Calls Tryz.prog 141 #[v] w (DecOut l w) := by
  by_cases h : sealed l
  · by_cases hf : frmS (rdS (l.take 252)) = true
    · by_cases heq : encS (rdS (l.take 252)) = l
      · exact (sDec_good hs h hf heq).mono fun e w' ⟨h1, h2⟩ => ⟨h2, .inl ⟨⟨h, hf, heq⟩, h1⟩⟩
      · exact (sDec_other hs h hf heq).mono fun e w' ⟨h1, h2⟩ => ⟨h2, .inr ⟨fun hh => heq hh.2.2, h1⟩⟩
    · exact (sDec_bad hs h (by simpa using hf)).mono fun e w' ⟨h1, h2⟩ => ⟨h2, .inr ⟨fun hh => hf hh.2.1, h1⟩⟩
  · exact (sDec_not hs h).mono fun e w' ⟨h1, h2⟩ => ⟨h2, .inr ⟨fun hh => h hh.1, h1⟩⟩
def cF (x : Value × Int) : List Value := [x.1, .int .i64 x.2]
theorem cF_len (x : Value × Int) : (cF x).length = 2 := rfl
def fl7 (g j : Nat) : Value × Int := (.pointer (some ⟨g, j, none⟩), (w7 j : Int))
def fldK7 (g k : Nat) : List (Value × Int) := (List.range 14).map fun j => if j < k then fl7 g j else (.pointer none, 0)
theorem fldK7_length (g k : Nat) : (fldK7 g k).length = 14 := by simp [fldK7]
theorem fldK7_set (g k : Nat) : (fldK7 g k).set k (fl7 g k) = fldK7 g (k + 1) := by
  apply List.ext_getElem (by rw [List.length_set, fldK7_length, fldK7_length])
  intro i h1 h2
  simp only [fldK7, List.getElem_set, List.getElem_map, List.getElem_range]
  by_cases e : k = i
  · subst e; rw [if_pos rfl, if_pos (by omega)]
  · rw [if_neg e]
    by_cases h : i < k
    · rw [if_pos h, if_pos (by omega)]
    · rw [if_neg h, if_neg (by omega)]
def fldC (g k : Nat) : List Value := (fldK7 g k).flatMap cF
theorem fldC_length (g k : Nat) : (fldC g k).length = 28 := by rw [fldC, flat_length (s := 2) (fun x _ => cF_len x), fldK7_length]
theorem fldC_one (g k : Nat) : ∀ v ∈ fldC g k, v.oneCell' = true := fun v hv => by
  obtain ⟨x, hx, hv⟩ := List.mem_flatMap.1 hv
  obtain ⟨j, _, rfl⟩ := List.mem_map.1 hx
  simp [cF] at hv
  rcases hv with rfl | rfl
  · split <;> rfl
  · rfl
theorem infoF7 : (Tryz.prog.info? 245).map (·.size) = some 2 := by kernel_rfl
theorem infoFs7 : (Tryz.prog.info? 246).map (·.size) = some 28 := by kernel_rfl
theorem ret_fs7 {fn : Func} {p : Tmp} (h : fn.results = #[.cell p 246]) (tmps : Array Value) (w : World) (g : Nat) (T : TypeId) (C : List Value) (hC : C.length = 28) (hp : tmps.getD p undef = .pointer (some ⟨g, 0, none⟩)) (hg : w.heap[g]? = some (.cells C.toArray T (0, 0))) :
    (results fn tmps).run Tryz.prog w = .ok (.agg C.toArray) w :=
  results_cell_row h tmps w g T _ (0, 0) _ hp hg Tryz.underlying246 rfl (by rw [infoFs7]; simp [hC])
theorem wpList_store_fs {ops : Array Oper} {rest : List Oper} {o : Oper} {a : Act} {w : World} {Q : Exit → Act → World → Prop} (hgd : o.guard = none) (x y : Operand) (ho : o.op = .store 246 x y)
    (g : Nat) (hx : a.eval x = .pointer (some ⟨g, 0, none⟩)) (C D : List Value) (hy : a.eval y = .agg C.toArray) (hC : C.length = 28) (hD : D.length = 28) (h1 : ∀ v ∈ C, v.oneCell' = true) (T : TypeId) (hg : w.heap[g]? = some (.cells D.toArray T (0, 0)))
    (h : ∀ w', Wrote w w' g → w'.heap[g]? = some (.cells C.toArray T (0, 0)) → wpList Tryz.prog ops Q rest (a.put o.dst undef) w') : wpList Tryz.prog ops Q (o :: rest) a w :=
  wpList_store_row hgd 246 x y ho g _ hx hy T _ hg (by rw [infoFs7]; simp [hC]) (by simp [hC, hD]) (all_oneCell_toArray h1) (h _ (Wrote.setRow _ _ _) (setRow_heap _ _ _ _ _ _ hg))
theorem wpList_store_f7 {ops : Array Oper} {rest : List Oper} {op : Oper} {a : Act} {w : World} {Q : Exit → Act → World → Prop} (hgd : op.guard = none) (x y : Operand) (ho : op.op = .store 245 x y)
    (b g k : Nat) (hk : k < 14) (m : Int) (hm : m = (w7 k : Int)) (hx : a.eval x = .pointer (some ⟨b, k * 2, none⟩)) (hy : a.eval y = .agg #[.pointer (some ⟨g, k, none⟩), .int .i64 m])
    (hg : w.heap[b]? = some (.cells (fldC g k).toArray 246 (0, 0)))
    (h : ∀ w', Wrote w w' b → w'.heap[b]? = some (.cells (fldC g (k + 1)).toArray 246 (0, 0)) → wpList Tryz.prog ops Q rest (a.put op.dst undef) w') : wpList Tryz.prog ops Q (op :: rest) a w := by
  subst hm
  refine wpList_store_flat (f := cF) (s := 2) hgd 245 x y ho infoF7 b k (fldK7 g k) (fl7 g k) 246 hx hy hg (by rw [fldK7_length]; exact hk) (fun x _ => cF_len x) (cF_len _) ?_ fun w' h1 h2 => h w' h1 ?_
  · intro v hv
    simp [cF, fl7] at hv
    rcases hv with rfl | rfl <;> rfl
  · rw [fldK7_set] at h2; exact h2
theorem fldC_zero (g : Nat) : fldC g 0 = [.pointer none, .int .i64 0, .pointer none, .int .i64 0, .pointer none, .int .i64 0, .pointer none, .int .i64 0, .pointer none, .int .i64 0, .pointer none, .int .i64 0, .pointer none, .int .i64 0, .pointer none, .int .i64 0, .pointer none, .int .i64 0, .pointer none, .int .i64 0, .pointer none, .int .i64 0, .pointer none, .int .i64 0, .pointer none, .int .i64 0, .pointer none, .int .i64 0] := rfl
theorem fldC_three (g : Nat) : fldC g 3 = [.pointer (some ⟨g, 0, none⟩), .int .i64 1, .pointer (some ⟨g, 1, none⟩), .int .i64 1, .pointer (some ⟨g, 2, none⟩), .int .i64 4, .pointer none, .int .i64 0, .pointer none, .int .i64 0, .pointer none, .int .i64 0, .pointer none, .int .i64 0, .pointer none, .int .i64 0, .pointer none, .int .i64 0, .pointer none, .int .i64 0, .pointer none, .int .i64 0, .pointer none, .int .i64 0, .pointer none, .int .i64 0, .pointer none, .int .i64 0] := rfl
theorem setCells_whole {W : World} {g : Nat} {T : TypeId} {D C : List Value} (hg : W.heap[g]? = some (.cells D.toArray T (0, 0))) (hl : C.length = D.length) (h1 : ∀ v ∈ C, v.oneCell' = true) :
    (W.setCells g 0 C).heap[g]? = some (.cells C.toArray T (0, 0)) ∧ Wrote W (W.setCells g 0 C) g := by
  have e := setCells_row hg (o := 0) (vs := C) (by omega) h1
  rw [e, splice_whole D C hl]
  exact ⟨setRow_heap _ _ _ _ _ _ hg, Wrote.setRow _ _ _⟩
set_option maxHeartbeats 2000000 in
theorem iFields_of (w : World) (g : Nat) : Calls Tryz.prog 181 #[.pointer (some ⟨g, 0, none⟩)] w fun e w' => e = .returned (.agg (fldC g 14).toArray) ∧ Below w.heap.size w w' := by
  have hr0 := heap_alloc_new w (.cells (fldC g 0).toArray 246)
  have hb0 := below_box w (.cells (fldC g 0).toArray 246)
  obtain ⟨w1, hw1⟩ : ∃ w1, w1 = w.alloc (.cells (fldC g 0).toArray 246) := ⟨_, rfl⟩
  rw [← hw1] at hr0 hb0
  have hsz : w1.heap.size = w.heap.size + 1 := by rw [hw1]; simp
  rw [fldC_zero] at hw1
  have HW1 := Lib.hid hw1
  have HR0 := Lib.hid hr0
  have hr1 := heap_alloc_new w1 (.cells (fldC g 0).toArray 246)
  have hb1 := below_box w1 (.cells (fldC g 0).toArray 246)
  have hth : (w1.alloc (.cells #[.pointer none, .int .i64 0, .pointer none, .int .i64 0, .pointer none, .int .i64 0, .pointer none, .int .i64 0, .pointer none, .int .i64 0, .pointer none, .int .i64 0, .pointer none, .int .i64 0, .pointer none, .int .i64 0, .pointer none, .int .i64 0, .pointer none, .int .i64 0, .pointer none, .int .i64 0, .pointer none, .int .i64 0, .pointer none, .int .i64 0, .pointer none, .int .i64 0] 246)).drew.there w1.heap.size 0 ([.pointer (some ⟨g, 0, none⟩), .int .i64 1, .pointer (some ⟨g, 1, none⟩), .int .i64 1, .pointer (some ⟨g, 2, none⟩), .int .i64 4, .pointer none, .int .i64 0, .pointer none, .int .i64 0, .pointer none, .int .i64 0, .pointer none, .int .i64 0, .pointer none, .int .i64 0, .pointer none, .int .i64 0, .pointer none, .int .i64 0, .pointer none, .int .i64 0, .pointer none, .int .i64 0, .pointer none, .int .i64 0, .pointer none, .int .i64 0] : List Value).toArray.size := there_row (w := (w1.alloc (.cells #[.pointer none, .int .i64 0, .pointer none, .int .i64 0, .pointer none, .int .i64 0, .pointer none, .int .i64 0, .pointer none, .int .i64 0, .pointer none, .int .i64 0, .pointer none, .int .i64 0, .pointer none, .int .i64 0, .pointer none, .int .i64 0, .pointer none, .int .i64 0, .pointer none, .int .i64 0, .pointer none, .int .i64 0, .pointer none, .int .i64 0, .pointer none, .int .i64 0] 246)).drew) (t := 246) (cur := fldC g 0) hr1 (by rw [fldC_length]; exact Nat.le_refl _)
  have hone : ∀ v ∈ ([.pointer (some ⟨g, 0, none⟩), .int .i64 1, .pointer (some ⟨g, 1, none⟩), .int .i64 1, .pointer (some ⟨g, 2, none⟩), .int .i64 4, .pointer none, .int .i64 0, .pointer none, .int .i64 0, .pointer none, .int .i64 0, .pointer none, .int .i64 0, .pointer none, .int .i64 0, .pointer none, .int .i64 0, .pointer none, .int .i64 0, .pointer none, .int .i64 0, .pointer none, .int .i64 0, .pointer none, .int .i64 0, .pointer none, .int .i64 0] : List Value), v.oneCell' = true := by have := fldC_one g 3; rw [fldC_three] at this; exact this
  have hset := setCells_whole (W := (w1.alloc (.cells #[.pointer none, .int .i64 0, .pointer none, .int .i64 0, .pointer none, .int .i64 0, .pointer none, .int .i64 0, .pointer none, .int .i64 0, .pointer none, .int .i64 0, .pointer none, .int .i64 0, .pointer none, .int .i64 0, .pointer none, .int .i64 0, .pointer none, .int .i64 0, .pointer none, .int .i64 0, .pointer none, .int .i64 0, .pointer none, .int .i64 0, .pointer none, .int .i64 0] 246)).drew) (g := w1.heap.size) (T := 246) (D := fldC g 0) (C := [.pointer (some ⟨g, 0, none⟩), .int .i64 1, .pointer (some ⟨g, 1, none⟩), .int .i64 1, .pointer (some ⟨g, 2, none⟩), .int .i64 4, .pointer none, .int .i64 0, .pointer none, .int .i64 0, .pointer none, .int .i64 0, .pointer none, .int .i64 0, .pointer none, .int .i64 0, .pointer none, .int .i64 0, .pointer none, .int .i64 0, .pointer none, .int .i64 0, .pointer none, .int .i64 0, .pointer none, .int .i64 0, .pointer none, .int .i64 0]) hr1 rfl hone
  have hb12 := hb1.drew.trans (hset.2.below (Nat.le_refl _))
  have HB12 := Lib.hid (hb0.trans (hb12.mono hb0.size))
  have HBX := Lib.hid hb12
  have HR3 := Lib.hid hset.1
  have HSZ := Lib.hid hsz
  clear hw1 hr0 hset hr1 hb1 hb12 hsz
  have hinf : (Tryz.prog.info? 246).map (·.size) = some ([.pointer (some ⟨g, 0, none⟩), .int .i64 1, .pointer (some ⟨g, 1, none⟩), .int .i64 1, .pointer (some ⟨g, 2, none⟩), .int .i64 4, .pointer none, .int .i64 0, .pointer none, .int .i64 0, .pointer none, .int .i64 0, .pointer none, .int .i64 0, .pointer none, .int .i64 0, .pointer none, .int .i64 0, .pointer none, .int .i64 0, .pointer none, .int .i64 0, .pointer none, .int .i64 0, .pointer none, .int .i64 0, .pointer none, .int .i64 0] : List Value).toArray.size := infoFs7
  go_enter Tryz.func181, Tryz.ntmps181
  go_wp2
  rw [← HW1.out]
  go_region_held3 (fun W => True) (trivial) (fail)
  generalize (w1.alloc (.cells #[.pointer none, .int .i64 0, .pointer none, .int .i64 0, .pointer none, .int .i64 0, .pointer none, .int .i64 0, .pointer none, .int .i64 0, .pointer none, .int .i64 0, .pointer none, .int .i64 0, .pointer none, .int .i64 0, .pointer none, .int .i64 0, .pointer none, .int .i64 0, .pointer none, .int .i64 0, .pointer none, .int .i64 0, .pointer none, .int .i64 0, .pointer none, .int .i64 0] 246)).drew.setCells w1.heap.size 0 [.pointer (some ⟨g, 0, none⟩), .int .i64 1, .pointer (some ⟨g, 1, none⟩), .int .i64 1, .pointer (some ⟨g, 2, none⟩), .int .i64 4, .pointer none, .int .i64 0, .pointer none, .int .i64 0, .pointer none, .int .i64 0, .pointer none, .int .i64 0, .pointer none, .int .i64 0, .pointer none, .int .i64 0, .pointer none, .int .i64 0, .pointer none, .int .i64 0, .pointer none, .int .i64 0, .pointer none, .int .i64 0, .pointer none, .int .i64 0] = w2 at HB12 HBX HR3 ⊢
  rw [← fldC_three] at HR3
  have hr02 : w2.heap[w.heap.size]? = some (.cells (fldC g 0).toArray 246 (0, 0)) := (HBX.out.block _ (by have := HSZ.out; omega)).trans HR0.out
  have HR02 := Lib.hid hr02
  have hb2 := HB12.out
  obtain ⟨b, hb⟩ : ∃ b, b = w1.heap.size := ⟨_, rfl⟩
  have hne : w.heap.size ≠ b := by have := HSZ.out; omega
  have hle : w.heap.size ≤ b := by have := HSZ.out; omega
  rw [← hb] at HR3 ⊢
  clear hinf hth hone hr02 hb HBX HB12 HR0 HW1 HSZ hb0
  go_wp2
  go_loopw [18] (fun i wr => ∃ j : Nat, j ≤ 10 ∧ i = .int .i64 j ∧ Hid (wr.heap[b]? = some (.cells (fldC g (3 + j)).toArray 246 (0, 0))) ∧ Hid (wr.heap[w.heap.size]? = some (.cells (fldC g 0).toArray 246 (0, 0))) ∧ Below w.heap.size w wr) (fun i _ => 10 - (intOf i).toNat)
  case atStart => exact ⟨0, by omega, rfl, HR3, HR02, hb2⟩
  case round =>
    obtain ⟨j, hj, rfl, HR, HRZ, hbr⟩ := hrel
    clear HR3 HR02 hb2
    by_cases hlt : j < 10
    · have ej : (j : Int) < 10 := by omega
      have hw2 : (2 : Int) = (w7 (3 + j) : Int) := by simp [w7_two]
      have HW2 := Lib.hid hw2
      clear hw2
      go_wp2_with (with_reducible refine wpList_store_f7 rfl (.tmp 29) (.tmp 28) rfl b g (3 + j) (by omega) 2 HW2.out rfl rfl HR.out ?_; intro w4 hw4 hr4)
      go_roundw
      case rel => exact ⟨j + 1, by omega, by go_num, hr4, (hw4.2.2.2.2 _ hne).trans HRZ.out, hbr.trans (hw4.below hle)⟩
      case measure => simp [intOf]; omega
    · obtain rfl : j = 10 := by omega
      go_wp2_with (first
        | (with_reducible refine wpList_store_f7 rfl (.tmp 35) (.tmp 34) rfl b g 13 (by omega) 2 rfl rfl rfl HR.out ?_; intro w4 hw4 hr4
           have hz4 := (hw4.2.2.2.2 _ hne).trans HRZ.out)
        | (with_reducible refine wpList_load_row rfl 246 (.tmp 3) rfl b rfl 246 _ (0, 0) _ hr4 Tryz.underlying246 rfl (by rw [infoFs7]; simp [fldC_length]) ?_)
        | (with_reducible refine wpList_store_fs rfl (.tmp 2) (.tmp 36) rfl w.heap.size rfl (fldC g 14) (fldC g 0) rfl (fldC_length g 14) (fldC_length g 0) (fldC_one g 14) _ hz4 ?_; intro w5 hw5 hr5))
      exact bodyPost_ret (ret_fs7 rfl _ _ w.heap.size _ _ (fldC_length g 14) rfl hr5) rfl ⟨rfl, (hbr.trans (hw4.below hle)).trans (hw5.below (Nat.le_refl _))⟩
theorem idx_fs7 (W : World) (g j : Nat) (hj : j < 14) : (Instr.index 246 (.agg (fldC g 14).toArray) (.int .i64 (j : Int))).run Tryz.prog W = .ok (.agg #[.pointer (some ⟨g, j, none⟩), .int .i64 (w7 j : Int)]) W := by
  have e : fldC g 14 = [.pointer (some ⟨g, 0, none⟩), .int .i64 1, .pointer (some ⟨g, 1, none⟩), .int .i64 1, .pointer (some ⟨g, 2, none⟩), .int .i64 4, .pointer (some ⟨g, 3, none⟩), .int .i64 2, .pointer (some ⟨g, 4, none⟩), .int .i64 2, .pointer (some ⟨g, 5, none⟩), .int .i64 2, .pointer (some ⟨g, 6, none⟩), .int .i64 2, .pointer (some ⟨g, 7, none⟩), .int .i64 2, .pointer (some ⟨g, 8, none⟩), .int .i64 2, .pointer (some ⟨g, 9, none⟩), .int .i64 2, .pointer (some ⟨g, 10, none⟩), .int .i64 2, .pointer (some ⟨g, 11, none⟩), .int .i64 2, .pointer (some ⟨g, 12, none⟩), .int .i64 2, .pointer (some ⟨g, 13, none⟩), .int .i64 2] := rfl
  rw [e]
  have a1 := Tryz.isAgg245
  have z1 := Tryz.sizeOf245
  have : j = 0 ∨ j = 1 ∨ j = 2 ∨ j = 3 ∨ j = 4 ∨ j = 5 ∨ j = 6 ∨ j = 7 ∨ j = 8 ∨ j = 9 ∨ j = 10 ∨ j = 11 ∨ j = 12 ∨ j = 13 := by omega
  rcases this with rfl | rfl | rfl | rfl | rfl | rfl | rfl | rfl | rfl | rfl | rfl | rfl | rfl | rfl <;> simp [Instr.index, run_underlying Tryz.underlying246, asIntOf, go_sem, a1, z1] <;> rfl
theorem grown_keep {w w' : World} {row : Option Nat} (h : w.grownBy w' row) (b o : Nat) (hb : b < w.heap.size) (hne : ∀ k, row = some k → k ≠ b) : w'.cell? ⟨b, o, none⟩ = w.cell? ⟨b, o, none⟩ := by
  apply World.cell?_of_block
  exact h.block b hb (fun e => hne b e.symm rfl)
theorem step_append_bytes {ops : Array Oper} {o : Oper} {a : Act} {w : World} {K : Act → World → Prop} {Q : Exit → Act → World → Prop} {E : Prop} (hgd : o.guard = none) (s x : Operand)
    (ho : o.op = .call { callee := .builtin .append, args := #[s, x], argTypes := #[49, 49] })
    (B : Nat) (v : Value) (l : List Int) (hs : a.eval s = v) (hown : OB w B v l) (u : Value) (m : List Int) (hx : a.eval x = u) (hr : BSl w u m) (hm : 0 < m.length)
    (hlen : l.length + m.length ≤ 140737488355328) (hB : B ≤ w.heap.size)
    (h : ∀ v' w', OB w' B v' (l ++ m) → Below B w w' → w.grownBy w' v.ownBlock → K (a.put o.dst v') w') :
    if Region.wanted o (yielded ops a.tmps) = true then Oper.wp Tryz.prog o a w K Q else E := by
  have hw : Region.wanted o (yielded ops a.tmps) = true := by simp [Region.wanted, hgd]
  rw [if_pos hw]
  obtain ⟨i, h2, h3, h4, h5⟩ := info_parts infoU8
  obtain ⟨ao, cap, rfl, hcap⟩ := hr.shape
  have hby := byt_append hown.1 hr.1
  have e1 : (l ++ m).length = l.length + m.length := List.length_append
  have e2 : (l ++ m).map (Value.int .u8) = l.map (Value.int .u8) ++ m.map (Value.int .u8) := List.map_append
  cases ao with
  | none =>
    rcases hr.2 with ⟨_, hl⟩ | ⟨_, _, hv, _⟩
    · rw [hl] at hm; simp at hm
    · simp at hv
  | some ad =>
    have hcells : ∀ j v, (m.map (Value.int .u8))[j]? = some v → w.cell? (ad.add j) = some v := by
      intro j v hj
      have hjl : j < m.length := by simpa using (List.getElem?_eq_some_iff.1 hj).1
      obtain ⟨ad', he, hc⟩ := src_cells hr (fun _ _ => rfl) m.length (by simp; omega)
      obtain rfl : ad = ad' := by simpa using he
      exact hc j v (by simpa using hj)
    refine wp_append_own w s x 49 ho B 5 i (.int .u8 0) 1 1 Tryz.underlying49 h2 h3 h4 h5 rfl (by decide) v l.length _ hs hown.2 ad m.length cap _ hx (by simp) hcells (ints_oneCell _ _) (by simp only [maxLen]; omega) (by omega) hB fun v' w' h6 h7 _ => ?_
    exact h v' w' ⟨hby, by rw [e1, e2]; exact h6⟩ ((Below.refl _ _).grown h7 hB fun k hk => (hown.2.lt k hk).1) h7
theorem ob_len7 {w : World} {B : Nat} {v : Value} {l : List Int} (h : OB w B v l) (n : Nat) (hn : l.length = n) (h0 : 0 < n) : ∃ g cap, v = .slice (some ⟨g, 0, none⟩) n cap := by
  rcases h.2.2 with ⟨_, h1⟩ | ⟨g, cap, cur, hv, _⟩
  · omega
  · exact ⟨g, cap, by rw [hv, hn]⟩
set_option maxHeartbeats 2000000 in
theorem iWrite_at (kd ln sz d0 d1 d2 d3 d4 d5 d6 d7 d8 d9 mp : Int) (L : List Int) (hLL : L = [kd, ln, sz, d0, d1, d2, d3, d4, d5, d6, d7, d8, d9, mp]) (hf : frmI L = true) (w : World) : Calls Tryz.prog 147 #[.agg #[.int .i64 kd, .int .i64 ln, .int .i64 sz, .int .i64 d0, .int .i64 d1, .int .i64 d2, .int .i64 d3, .int .i64 d4, .int .i64 d5, .int .i64 d6, .int .i64 d7, .int .i64 d8, .int .i64 d9, .int .i64 mp]] w (NewB w (enc7 L)) := by
  have hL : L.length = 14 := by rw [hLL]; rfl
  have hb1 := below_box w (iO L 92)
  have hr1 := heap_alloc_new w (iO L 92)
  obtain ⟨W1, hW1⟩ : ∃ W1, W1 = w.alloc (iO L 92) := ⟨_, rfl⟩
  rw [← hW1] at hb1 hr1
  have hsz : w.heap.size < W1.heap.size := by rw [hW1]; simp
  have HZ1 : Hid (W1.heap.size = w.heap.size + 1) := Lib.hid (by rw [hW1]; simp)
  have H2 : Hid (w.alloc (.cells #[.int .i64 kd, .int .i64 ln, .int .i64 sz, .int .i64 d0, .int .i64 d1, .int .i64 d2, .int .i64 d3, .int .i64 d4, .int .i64 d5, .int .i64 d6, .int .i64 d7, .int .i64 d8, .int .i64 d9, .int .i64 mp] 92) = W1) := Lib.hid (by rw [hW1, hLL]; rfl)
  have HR1 := Lib.hid hr1
  have HF := Lib.hid (frm7_num hL hf)
  have HL := Lib.hid hL
  obtain ⟨M, hMM⟩ : ∃ M : Nat, M = 32 := ⟨_, rfl⟩
  have HMI : Hid ((32 : Int) = (M : Int)) := Lib.hid (by omega)
  have hM1 : M ≤ 1000 := by omega
  clear hW1 hr1 hLL hf hL hMM
  go_enter Tryz.func147, Tryz.ntmps147
  go_wp2_with (first
    | (at_make; refine wpList_make_u8c _ rfl _ _ rfl 0 32 0 M rfl rfl rfl HMI.out (Nat.zero_le _) (by omega) ?_)
    | (go_at_call 181
       rw [H2.out]
       have hob2 := ob_made W1 M hM1
       have hb2 : Below W1.heap.size W1 (W1.alloc (.cells (Array.replicate M (.int .u8 0)) 5)) := below_box _ _
       generalize W1.alloc (.cells (Array.replicate M (.int .u8 0)) 5) = w2 at hob2 hb2 ⊢
       refine (iFields_of _ _).mono ?_; rintro e w3 ⟨rfl, hb3⟩))
  rw [HZ1.out] at hob2
  have hb23 : Below W1.heap.size W1 w3 := hb2.trans (hb3.mono hb2.size)
  have hb03 : Below w.heap.size w w3 := hb1.trans (hb23.mono (Nat.le_of_lt hsz))
  have hr3 : w3.heap[w.heap.size]? = some (iO L 92) := (hb23.block _ hsz).trans HR1.out
  have hz3 : w.heap.size < w3.heap.size := Nat.lt_of_lt_of_le hsz hb23.size
  obtain ⟨g, hg⟩ : ∃ g, g = w.heap.size := ⟨_, rfl⟩
  rw [← hg] at hr3 hz3 ⊢
  have hc3 : ∀ j, j < 14 → w3.cell? ⟨g, j, none⟩ = some (.int .i64 (L.getD j 0)) := fun j hj => io_cell hr3 j (by rw [HL.out]; exact hj)
  have HIX := Lib.hid (fun W j hj => idx_fs7 W g j hj)
  obtain ⟨F, hF⟩ : ∃ F, F = (fldC g 14).toArray := ⟨_, rfl⟩
  rw [← hF] at HIX ⊢
  have HOB3 := Lib.hid ((hob2.below hb3).more (B' := g + 1) (by have := HZ1.out; omega))
  rw [← hg] at HOB3
  have HC := Lib.hid hc3
  have hbg3 : Below g w w3 := by rw [hg]; exact hb03
  have HG := Lib.hid hg
  clear hb03 hg hr3 hc3 hF hb23 hb3 hb2 hob2 hb1 hsz
  go_loopw [3, 8] (fun u i wr => ∃ j : Nat, j ≤ 14 ∧ i = .int .i64 j ∧ Hid (OB wr (g + 1) u (con7 L j)) ∧ Hid (Below g w wr) ∧ w3.heap.size ≤ wr.heap.size ∧ Hid (∀ j, j < 14 → wr.cell? ⟨g, j, none⟩ = some (.int .i64 (L.getD j 0)))) (fun _ i _ => 14 - (intOf i).toNat)
  case atStart => exact ⟨0, by omega, rfl, HOB3, hbg3, Nat.le_refl _, HC⟩
  case round =>
    clear HOB3 hbg3 HC
    obtain ⟨j, hj, rfl, HOB, HBR, hsz, HC⟩ := hrel
    by_cases hlt : j < 14
    · have hix := HIX.out wr j hlt
      have hx0 := HF.out j hlt
      have hcx := HC.out j hlt
      have hcs : con7 L (j + 1) = con7 L j ++ lowB (L.getD j 0) (w7 j) := rfl
      have hwd := w7_le j
      have hlen := con7_length L j
      have hpin := p7_in j hlt
      have hpw := pow256_le hwd.2
      have e4 : (256 : Int) ^ 4 = 4294967296 := rfl
      obtain ⟨x, hx⟩ : ∃ x, x = L.getD j 0 := ⟨_, rfl⟩
      obtain ⟨k, hk⟩ : ∃ k, k = w7 j := ⟨_, rfl⟩
      rw [← hx] at hx0 hcx hcs
      rw [← hk] at hwd hix hcs hx0 hpin hpw
      have hx1 : x < 4294967296 := by omega
      have hx2 := hx0.1
      have HCS := Lib.hid hcs
      have HPU := Lib.hid (fun W => pPut_at (bsl_nil W) (by simp) x (k : Int) k (by omega) (by omega) rfl hx2 (by omega))
      have HLE : Hid ((con7 L j).length + (lowB x k).length ≤ 140737488355328) := Lib.hid (by rw [hlen, lowB_length]; omega)
      have HKL : Hid (0 < (lowB x k).length) := Lib.hid (by rw [lowB_length]; omega)
      have ej : (j : Int) < 14 := by omega
      have hgw : g < wr.heap.size := Nat.lt_of_lt_of_le hz3 hsz
      clear hx hk hcs hx0 hlen hpin hpw e4
      go_wp2
      have hbx := below_box wr (.cells #[.pointer (some ⟨g, j, none⟩), .int .i64 (k : Int)] 245)
      have hhx := heap_alloc_new wr (.cells #[.pointer (some ⟨g, j, none⟩), .int .i64 (k : Int)] 245)
      generalize wr.alloc (.cells #[.pointer (some ⟨g, j, none⟩), .int .i64 (k : Int)] 245) = W5 at hbx hhx ⊢
      have c0 : W5.cell? ⟨wr.heap.size, 0, none⟩ = some (.pointer (some ⟨g, j, none⟩)) := by rw [cell_of_row _ _ _ _ _ _ hhx]; rfl
      have c1 : W5.cell? ⟨wr.heap.size, 1, none⟩ = some (.int .i64 (k : Int)) := by rw [cell_of_row _ _ _ _ _ _ hhx]; rfl
      have c2 : W5.cell? ⟨g, j, none⟩ = some (.int .i64 x) := by rw [hbx.cell hgw]; exact hcx
      obtain ⟨q, hq⟩ : ∃ q, q = wr.heap.size := ⟨_, rfl⟩
      have hq5 : q < W5.heap.size := by rw [hq]; exact (Array.getElem?_eq_some_iff.1 hhx).1
      have hg5 : g < W5.heap.size := by omega
      have hown := HOB.out.2.lt
      have HNE := Lib.hid (fun k hk => (show k ≠ q ∧ k ≠ g by have h1 := hown k hk; omega))
      have hwx : IntKind.u64.wrap x = x := IntWalk.u64_in _ (by omega)
      have HBX := Lib.hid (below_drewN' hbx 1)
      have HU := Lib.hid (HOB.out.below HBX.out)
      rw [← hq] at c0 c1 ⊢
      have d0 : W5.drew.cell? ⟨q, 0, none⟩ = some (.pointer (some ⟨g, j, none⟩)) := c0
      have d1 : W5.drew.cell? ⟨q, 1, none⟩ = some (.int .i64 (k : Int)) := c1
      have d2 : W5.drew.cell? ⟨g, j, none⟩ = some (.int .i64 x) := c2
      change Hid (OB W5.drew _ _ _) at HU
      change Hid (Below wr.heap.size wr W5.drew) at HBX
      clear hbx hhx hcx hix hq c0 c1 c2 hown
      go_region_held3 (fun W => W.cell? ⟨q, 0, none⟩ = some (.pointer (some ⟨g, j, none⟩)) ∧ W.cell? ⟨q, 1, none⟩ = some (.int .i64 (k : Int)) ∧ W.cell? ⟨g, j, none⟩ = some (.int .i64 x)) (first | exact ⟨f0, f1, f2⟩ | exact ⟨e0, e1, e2⟩ | exact ⟨d0, d1, d2⟩) (first
        | (go_at_call 121; (with_reducible refine (HPU.out _).mono ?_); rintro e w6 ⟨v6, rfl, hob6, hb6⟩
           have HB6 := Lib.hid (HBX.out.trans (hb6.mono HBX.out.size))
           have e0 := (hb6.cell (p := ⟨q, 0, none⟩) hq5).trans d0
           have e1 := (hb6.cell (p := ⟨q, 1, none⟩) hq5).trans d1
           have e2 := (hb6.cell (p := ⟨g, j, none⟩) hg5).trans d2
           have hq6 : q < w6.heap.size := Nat.lt_of_lt_of_le hq5 hb6.size
           have hg6 : g < w6.heap.size := Nat.lt_of_lt_of_le hg5 hb6.size)
        | (refine step_append_bytes rfl (.tmp 11) (.tmp 19) rfl (g + 1) _ (con7 L j) rfl (HU.out.below hb6) v6 (lowB x k) rfl hob6.bsl HKL.out HLE.out hg6 ?_
           intro v7 w7 hob7 hb7 hg7
           have f0 := (grown_keep hg7 q 0 hq6 (fun k hk => (HNE.out k hk).1)).trans e0
           have f1 := (grown_keep hg7 q 1 hq6 (fun k hk => (HNE.out k hk).1)).trans e1
           have f2 := (grown_keep hg7 g j hg6 (fun k hk => (HNE.out k hk).2)).trans e2))
      go_wp2
      go_roundw
      case rel =>
        have h67 : Below g wr w7 := (HB6.out.mono (Nat.le_of_lt hgw)).trans (hb7.mono (Nat.le_succ g))
        refine ⟨j + 1, by omega, by go_num, ?_, HBR.out.trans h67, Nat.le_trans hsz h67.size, fun i hi => ?_⟩
        · show OB _ _ _ (con7 L (j + 1))
          rw [HCS.out]; exact hob7
        · rw [hb7.cell (p := ⟨g, i, none⟩) (Nat.lt_succ_self g), HB6.out.cell (p := ⟨g, i, none⟩) hgw]; exact HC.out i hi
      case measure => simp [intOf]; omega
    · obtain rfl : j = 14 := by omega
      obtain ⟨gq, cq, rfl⟩ := ob_len7 HOB.out 28 (con7_length L 14) (by decide)
      have hle : g + 1 ≤ wr.heap.size := by omega
      have hl28 := con7_length L 14
      rw [p7_end] at hl28
      have HL28 : Hid ((con7 L 14).length + 4 ≤ 140737488355328) := Lib.hid (by omega)
      clear hl28
      go_wp2_with (at_builtin; refine wpList_append_zeros wr rfl (.tmp 22) (.tmp 25) rfl (g + 1) _ (con7 L 14) rfl HOB.out 4 4 rfl rfl HL28.out hle ?_; intro v8 w8 hob8 hb8)
      go_ret
      have hbf := HBR.out.trans (hb8.mono (Nat.le_succ g))
      have eg := HG.out
      exact ⟨_, rfl, hob8.more (by omega), by rw [← eg]; exact hbf⟩
theorem iWrite_of {L : List Int} (hL : L.length = 14) (hf : frmI L = true) (w : World) : Calls Tryz.prog 147 #[.agg (iC L).toArray] w (NewB w (enc7 L)) := by
  match L, hL with
  | [kd, ln, sz, d0, d1, d2, d3, d4, d5, d6, d7, d8, d9, mp], _ => exact iWrite_at kd ln sz d0 d1 d2 d3 d4 d5 d6 d7 d8 d9 mp _ rfl hf w
theorem infoN7 : (Tryz.prog.info? 92).map (·.size) = some 14 := by kernel_rfl
theorem wpList_store_nums {ops : Array Oper} {rest : List Oper} {o : Oper} {a : Act} {w : World} {Q : Exit → Act → World → Prop} (hgd : o.guard = none) (T : TypeId) (x y : Operand) (ho : o.op = .store T x y)
    (g : Nat) (hx : a.eval x = .pointer (some ⟨g, 0, none⟩)) (L D : List Int) (hy : a.eval y = .agg (iC L).toArray) (hLD : D.length = L.length) (hi : (Tryz.prog.info? T).map (·.size) = some L.length) (T' : TypeId) (hg : w.heap[g]? = some (iO D T'))
    (h : ∀ w', Wrote w w' g → w'.heap[g]? = some (iO L T') → wpList Tryz.prog ops Q rest (a.put o.dst undef) w') : wpList Tryz.prog ops Q (o :: rest) a w :=
  wpList_store_row hgd T x y ho g _ hx hy T' _ hg (by rw [hi]; simp [iC]) (by simp [iC, hLD]) (all_oneCell_toArray (iC_one L)) (h _ (Wrote.setRow _ _ _) (setRow_heap _ _ _ _ _ _ hg))
def NSl (w : World) (v : Value) (O : List (List Int)) : Prop :=
  Len14 O ∧ ((v = .slice none 0 0 ∧ O = []) ∨ ∃ a cap, v = .slice (some a) O.length cap ∧ ∀ j, j < O.length → a.block < w.heap.size ∧ a.spot = none ∧ w.rangeAt a.block (a.off + j * 14) (iC (O.getD j [])))
theorem NSl.open' {w : World} {v : Value} {O : List (List Int)} (h : NSl w v O) : ∃ ao cap, v = .slice ao O.length cap ∧ (0 < O.length → ∃ b off, ao = some ⟨b, off, none⟩ ∧ b < w.heap.size ∧
    ∀ j, j < O.length → w.rangeAt b (off + j * 14) (iC (O.getD j []))) := by
  rcases h.2 with ⟨hv, hk⟩ | ⟨⟨b, off, spot⟩, cap, hv, hc⟩
  · exact ⟨none, 0, by rw [hv, hk]; rfl, fun h => by rw [hk] at h; simp at h⟩
  · refine ⟨_, cap, hv, fun h0 => ?_⟩
    obtain ⟨h1, h2, _⟩ := hc 0 h0
    obtain rfl : spot = none := h2
    exact ⟨b, off, rfl, h1, fun j hj => (hc j hj).2.2⟩
theorem NSl.shape {w : World} {v : Value} {O : List (List Int)} (h : NSl w v O) : ∃ ao cap, v = .slice ao O.length cap := by
  obtain ⟨ao, cap, hv, _⟩ := h.open'
  exact ⟨ao, cap, hv⟩
theorem NSl.at {w : World} {v : Value} {O : List (List Int)} (h : NSl w v O) (h0 : 0 < O.length) : ∃ b off cap, v = .slice (some ⟨b, off, none⟩) O.length cap ∧ b < w.heap.size ∧ ∀ j, j < O.length → w.rangeAt b (off + j * 14) (iC (O.getD j [])) := by
  obtain ⟨ao, cap, hv, hc⟩ := h.open'
  obtain ⟨b, off, rfl, h1, h2⟩ := hc h0
  exact ⟨b, off, cap, hv, h1, h2⟩
theorem iEnc_len {w : World} (ao : Option Addr) (len cap : Nat) (h : len ≠ 8) : Calls Tryz.prog 104 #[.slice ao len cap] w fun e w' => e = .returned (.tuple #[.slice none 0 0, .int .i64 1]) ∧ w = w' := by
  have hne : ((len : Int) != 8) = true := by simp; omega
  go_enter Tryz.func104, Tryz.ntmps104
  go_wp2
  go_ret2
  exact ⟨rfl, rfl⟩
def EncT7 (O : List (List Int)) (w : World) (e : Ending) (w' : World) : Prop :=
  (allF O = true ∧ ∃ u, e = .returned (.tuple #[u, .int .i64 0]) ∧ OB w' w.heap.size u (encT O) ∧ Below w.heap.size w w') ∨
  (allF O = false ∧ e = .returned (.tuple #[.slice none 0 0, .int .i64 1]) ∧ Below w.heap.size w w')
theorem iEnc_8 {w : World} {v : Value} {O : List (List Int)} (hs : NSl w v O) (h8 : O.length = 8) : Calls Tryz.prog 104 #[v] w (EncT7 O w) := by
  obtain ⟨b, off, cap, rfl, hb, hc⟩ := hs.at (by omega)
  have H14 := Lib.hid hs.1
  have HYE := Lib.hid (allF_yes h8)
  have HNO := Lib.hid (fun k hk h => allF_no (k := k) h8 hk h)
  have H8 := Lib.hid h8
  obtain ⟨M, hMM⟩ : ∃ M : Nat, M = 256 := ⟨_, rfl⟩
  have HMI : Hid ((256 : Int) = (M : Int)) := Lib.hid (by omega)
  have hM1 : M ≤ 1000 := by omega
  rw [h8] at hc ⊢
  have HC := Lib.hid hc
  clear hs hc h8 hMM
  go_enter Tryz.func104, Tryz.ntmps104
  go_wp2_with (at_make; refine wpList_make_u8c _ rfl _ _ rfl 0 256 0 M rfl rfl rfl HMI.out (Nat.zero_le _) (by omega) ?_)
  have HOB3 := Lib.hid (ob_made w M hM1)
  have hbw3 : Below w.heap.size w (w.alloc (.cells (Array.replicate M (.int .u8 0)) 5)) := below_box _ _
  generalize w.alloc (.cells (Array.replicate M (.int .u8 0)) 5) = w3 at HOB3 hbw3 ⊢
  go_loopw [4, 13] (fun u i wr => ∃ k : Nat, k ≤ 8 ∧ i = .int .i64 k ∧ Hid (OB wr w.heap.size u (encK7 O k)) ∧ Hid (∀ j, j < k → frmI (O.getD j []) = true) ∧ Below w.heap.size w wr) (fun _ i _ => 8 - (intOf i).toNat)
  case atStart => exact ⟨0, by omega, rfl, HOB3, fun j hj => absurd hj (Nat.not_lt_zero _), hbw3⟩
  case round =>
    obtain ⟨k, hk, rfl, HOB, HK, hbr⟩ := hrel
    clear HOB3 hbw3
    by_cases hlt : k < 8
    · have hrg := range_low (HC.out k hlt) hbr hb
      have hno := HNO.out k hlt
      have h14 := len14_get H14.out k (by rw [H8.out]; exact hlt)
      have hpk : encK7 O (k + 1) = encK7 O k ++ enc7 (O.getD k []) := rfl
      obtain ⟨x, hx⟩ : ∃ x, x = O.getD k [] := ⟨_, rfl⟩
      rw [← hx] at hrg hpk hno h14
      have ek : (k : Int) < 8 := by omega
      have HX := Lib.hid hx
      have HPK := Lib.hid hpk
      have HL := Lib.hid (encK7_length O k)
      have HN1 := Lib.hid hno
      have HRG := Lib.hid hrg
      have HX14 : Hid (zeroI.length = x.length) := Lib.hid h14.symm
      have HI14 : Hid ((Tryz.prog.info? 92).map (·.size) = some x.length) := Lib.hid (by rw [infoN7, h14])
      have hz : (wr.alloc (.cells #[.int .i64 0, .int .i64 0, .int .i64 0, .int .i64 0, .int .i64 0, .int .i64 0, .int .i64 0, .int .i64 0, .int .i64 0, .int .i64 0, .int .i64 0, .int .i64 0, .int .i64 0, .int .i64 0] 92)).heap[wr.heap.size]? = some (iO zeroI 92) := heap_alloc_new wr _
      have hbz := below_box wr (.cells #[.int .i64 0, .int .i64 0, .int .i64 0, .int .i64 0, .int .i64 0, .int .i64 0, .int .i64 0, .int .i64 0, .int .i64 0, .int .i64 0, .int .i64 0, .int .i64 0, .int .i64 0, .int .i64 0] 92)
      have hqz : wr.heap.size < (wr.alloc (.cells #[.int .i64 0, .int .i64 0, .int .i64 0, .int .i64 0, .int .i64 0, .int .i64 0, .int .i64 0, .int .i64 0, .int .i64 0, .int .i64 0, .int .i64 0, .int .i64 0, .int .i64 0, .int .i64 0] 92)).heap.size := by simp
      have HZ := Lib.hid hz
      have HBZ := Lib.hid hbz
      have HQZ := Lib.hid hqz
      have u1 := Tryz.underlying92
      obtain ⟨B, hf⟩ : ∃ B, frmI x = B := ⟨_, rfl⟩
      have HF := Lib.hid hf
      have KF := Lib.hid (iForm_is h14 B hf)
      have KW := Lib.hid (fun h => iWrite_of h14 (hf.trans h))
      clear hx hpk hno hrg h14 hz hbz hqz hf
      cases B
      · go_wp2_with (first
          | (with_reducible refine wpList_load_nums rfl 92 (.tmp 15) rfl b (off + k * 14) rfl x _ HRG.out u1 rfl HI14.out ?_)
          | (with_reducible refine wpList_store_nums rfl 92 (.tmp 6) (.tmp 16) rfl wr.heap.size rfl x zeroI rfl HX14.out HI14.out _ HZ.out ?_
             intro w4 hw4 hr4
             have hrg4 := io_range hr4
             have hb4 := HBZ.out.trans (hw4.below (Nat.le_refl _)))
          | (with_reducible refine wpList_load_nums rfl 92 (.tmp 6) rfl wr.heap.size 0 rfl x _ hrg4 u1 rfl HI14.out ?_)
          | (go_at_call 102; refine (KF.out _).mono ?_; rintro e w5 ⟨rfl, hb5⟩))
        go_ret2
        exact .inr ⟨HN1.out HF.out, rfl, (hbr.trans (hb4.mono hbr.size)).trans (hb5.mono (Nat.le_trans hbr.size hb4.size))⟩
      · have KWT := Lib.hid (KW.out rfl)
        clear KW
        go_wp2_with (first
          | (with_reducible refine wpList_load_nums rfl 92 (.tmp 15) rfl b (off + k * 14) rfl x _ HRG.out u1 rfl HI14.out ?_)
          | (with_reducible refine wpList_store_nums rfl 92 (.tmp 6) (.tmp 16) rfl wr.heap.size rfl x zeroI rfl HX14.out HI14.out _ HZ.out ?_
             intro w4 hw4 hr4
             have hrg4 := io_range hr4
             have hb4 := HBZ.out.trans (hw4.below (Nat.le_refl _)))
          | (with_reducible refine wpList_load_nums rfl 92 (.tmp 6) rfl wr.heap.size 0 rfl x _ hrg4 u1 rfl HI14.out ?_)
          | (go_at_call 102; refine (KF.out _).mono ?_; rintro e w5 ⟨rfl, hb5⟩
             have hrg5 := range_low hrg4 hb5 (Array.getElem?_eq_some_iff.1 hr4).1
             have HB5 := Lib.hid (hb4.trans (hb5.mono hb4.size))
             clear hrg4 hb4 hb5 hw4)
          | (with_reducible refine wpList_load_nums rfl 92 (.tmp 6) rfl wr.heap.size 0 rfl x _ hrg5 u1 rfl HI14.out ?_)
          | (go_at_call 147; refine (KWT.out _).mono ?_; rintro e w6 ⟨v6, rfl, hob6, hb6⟩
             have HB6 := Lib.hid (HB5.out.trans (hb6.mono HB5.out.size))
             have HB06 := Lib.hid (hbr.trans (HB6.out.mono hbr.size)))
          | (at_builtin
             refine wpList_append_bytes w6 rfl _ _ rfl w.heap.size _ (encK7 O k) rfl (HOB.out.below HB6.out) w6 v6 (enc7 x) rfl hob6.bsl (fun _ _ => rfl) (by rw [HL.out, enc7_length]; omega) HB06.out.size ?_
             intro v7 w7 hob7 hb7 _))
        go_roundw
        case rel =>
          refine ⟨k + 1, by omega, by go_num, by show OB _ _ _ (encK7 O (k + 1)); rw [HPK.out]; exact hob7, fun j hj => ?_, HB06.out.trans hb7⟩
          by_cases e : j = k
          · subst e; rw [← HX.out]; exact HF.out
          · exact HK.out j (by omega)
        case measure => simp [intOf]; omega
    · obtain rfl : k = 8 := by omega
      go_wp2
      go_ret2
      exact .inl ⟨HYE.out HK.out, _, rfl, HOB.out, hbr⟩
theorem iEnc_any {w : World} {v : Value} {O : List (List Int)} (hs : NSl w v O) : Calls Tryz.prog 104 #[v] w (EncT7 O w) := by
  by_cases h : O.length = 8
  · exact iEnc_8 hs h
  · obtain ⟨ao, cap, rfl⟩ := hs.shape
    refine (iEnc_len ao _ cap h).mono fun e w' ⟨he, hw⟩ => .inr ⟨?_, he, by rw [← hw]; exact Below.refl _ _⟩
    unfold allF; rw [decide_eq_false h]; rfl
theorem run_slice_part (w : World) (b off n cap l h : Nat) (hi : Option Value) (hhi : (hi = none ∧ h = n) ∨ hi = some (.int .i64 (h : Int))) (h1 : l ≤ h) (h2 : h ≤ cap) (h3 : l < cap) :
    (Instr.sliceAt 49 (.slice (some ⟨b, off, none⟩) n cap) (some (.int .i64 (l : Int))) hi none).run Tryz.prog w = .ok (.slice (some ⟨b, off + l, none⟩) (h - l) (cap - l)) w := by
  obtain ⟨i, g2, g3, g4, g5⟩ := info_parts infoU8
  have hne : cap ≠ l := by omega
  have ee : Tryz.prog.elem 49 = 5 := by kernel_rfl
  have hs : (sizeOf 5).run Tryz.prog w = .ok 1 w := by simp [sizeOf, typeInfo, g2, g4]
  rcases hhi with ⟨rfl, rfl⟩ | rfl
  · rw [run_sliceAt_slice w 49 _ _ _ _ (by rw [ee]; exact Tryz.underlying49), run_slice_l w 49 _ h cap (by rw [ee]; exact Tryz.underlying49) .i64 (l : Int) (by omega) (by omega), ee, hs]
    simp [sliced, hne, Addr.add_lit]
  · rw [run_sliceAt_slice w 49 _ _ _ _ (by rw [ee]; exact Tryz.underlying49), run_slice_lh w 49 _ n cap (by rw [ee]; exact Tryz.underlying49) .i64 .i64 (l : Int) (h : Int) (by omega) (by omega) (by omega), ee, hs]
    simp [sliced, hne, Addr.add_lit]
theorem wpList_slice_lh {w : World} {ops : Array Oper} {rest : List Oper} {o : Oper} {a : Act} {Q : Exit → Act → World → Prop} (hgd : o.guard = none) (x lo hi : Operand) (ho : o.op = .slice 49 x (some lo) (some hi) none)
    (b off n cap : Nat) (hx : a.eval x = .slice (some ⟨b, off, none⟩) n cap) (L H : Int) (hl : a.eval lo = .int .i64 L) (hh : a.eval hi = .int .i64 H) (l h m : Nat) (hm : h - l = m) (hL : L = l) (hH : H = h) (h1 : l ≤ h) (h2 : h ≤ cap) (h3 : l < cap)
    (hK : wpList Tryz.prog ops Q rest (a.put o.dst (.slice (some ⟨b, off + l, none⟩) m (cap - l))) w) : wpList Tryz.prog ops Q (o :: rest) a w := by
  subst hL hH hm
  refine wpList_plain hgd fun K hK' => ?_
  unfold Oper.wp execOp
  simp only [ho, hx, hl, hh, Option.map_some, Option.map_none, run_slice_part w b off n cap l h _ (.inr rfl) h1 h2 h3, Sem.run_bind, Sem.run_pure, Result.andThen_ok]
  exact hK' _ _ hK
theorem BSl.mid {w : World} {b off cap : Nat} {l : List Int} (h : BSl w (.slice (some ⟨b, off, none⟩) l.length cap) l) (lo m : Nat) (hm : lo + m ≤ l.length) : BSl w (.slice (some ⟨b, off + lo, none⟩) m (cap - lo)) ((l.drop lo).take m) := by
  have hlen : ((l.drop lo).take m).length = m := by simp; omega
  rcases h.2 with ⟨hv, _⟩ | ⟨a', c', hv, hc0, hc⟩
  · simp at hv
  · obtain ⟨rfl, rfl⟩ : a' = ⟨b, off, none⟩ ∧ cap = c' := by
      have := Value.slice.inj hv
      exact ⟨(Option.some.inj this.1).symm, this.2.2⟩
    refine ⟨byt_take (byt_drop h.1 lo) m, .inr ⟨⟨b, off + lo, none⟩, cap - lo, by rw [hlen], by rw [hlen]; omega, fun j hj => ?_⟩⟩
    rw [hlen] at hj
    obtain ⟨h1, _, h3⟩ := hc (lo + j) (by omega)
    refine ⟨h1, rfl, ?_⟩
    show w.cell? ⟨b, off + lo + j, none⟩ = _
    rw [Nat.add_assoc]
    have h3 : w.cell? ⟨b, off + (lo + j), none⟩ = some (.int .u8 (l.getD (lo + j) 0)) := h3
    rw [h3]
    simp [List.getD_eq_getElem?_getD, hj]
theorem BSl.open' {w : World} {v : Value} {l : List Int} (h : BSl w v l) (h0 : 0 < l.length) : ∃ b off cap, v = .slice (some ⟨b, off, none⟩) l.length cap ∧ l.length ≤ cap ∧ b < w.heap.size := by
  rcases h.2 with ⟨_, hl⟩ | ⟨⟨b, off, spot⟩, cap, hv, hc0, hc⟩
  · rw [hl] at h0; simp at h0
  · obtain ⟨h1, h2, _⟩ := hc 0 h0
    obtain rfl : spot = none := h2
    exact ⟨b, off, cap, hv, hc0, h1⟩
end Go.Proofs.YtaakepjgpnaecaaGreat
