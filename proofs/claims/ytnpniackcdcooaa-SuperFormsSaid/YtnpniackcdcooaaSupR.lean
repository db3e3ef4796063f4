/- Contract of read. -/
import Derived.Test.YtnpniackcdcooaaSupF
import Derived.Test.YtnpniackcdcooaaPackD
namespace Go.Proofs.Ytnpniackcdcooaa
open Go.RowKit
set_option linter.unusedVariables false

/-- Nothing but block g has turned, of what was there. -/
def Kept (w w' : World) (g : Nat) : Prop := w'.os = w.os ∧ w'.tape = w.tape ∧ w'.output = w.output ∧ w.heap.size ≤ w'.heap.size ∧ ∀ k, k < w.heap.size → k ≠ g → w'.heap[k]? = w.heap[k]?
theorem Kept.refl (w : World) (g : Nat) : Kept w w g := ⟨rfl, rfl, rfl, Nat.le_refl _, fun _ _ _ => rfl⟩
theorem Kept.then {w w' w'' : World} {g : Nat} (h : Kept w w' g) (hb : Below w'.heap.size w' w'') : Kept w w'' g :=
  ⟨hb.os.trans h.1, hb.tape.trans h.2.1, hb.output.trans h.2.2.1, Nat.le_trans h.2.2.2.1 hb.size, fun k hk hne => by rw [hb.block k (Nat.lt_of_lt_of_le hk h.2.2.2.1)]; exact h.2.2.2.2 k hk hne⟩
theorem Kept.wrote {w w' w'' : World} {g : Nat} (h : Kept w w' g) (hb : Wrote w' w'' g) : Kept w w'' g :=
  ⟨hb.1.trans h.1, hb.2.1.trans h.2.1, hb.2.2.1.trans h.2.2.1, by rw [hb.2.2.2.1]; exact h.2.2.2.1, fun k hk hne => by rw [hb.2.2.2.2 k hne]; exact h.2.2.2.2 k hk hne⟩
theorem Kept.below {w w' : World} {g B : Nat} (h : Kept w w' g) (hB : B ≤ g) (hw : B ≤ w.heap.size) : Below B w w' :=
  ⟨h.1, h.2.1, h.2.2.1, h.2.2.2.1, fun k hk => h.2.2.2.2 k (Nat.lt_of_lt_of_le hk hw) (by omega)⟩
theorem Kept.cell {w w' : World} {g : Nat} (h : Kept w w' g) {b o : Nat} (hb : b < w.heap.size) (hne : b ≠ g) : w'.cell? ⟨b, o, none⟩ = w.cell? ⟨b, o, none⟩ := by
  simp only [World.cell?]; rw [h.2.2.2.2 b hb hne]

/-- The superblock whose first j numbers have been read. -/
def rdTo (c : List Int) (j : Nat) : List Int := (List.range 12).map fun i => if i < j then getV c (pos i) (wid i) else 0
theorem rdTo_length (c : List Int) (j : Nat) : (rdTo c j).length = 12 := by simp [rdTo]
theorem rdTo_set (c : List Int) (j : Nat) (hj : j < 12) : (rdTo c j).set j (getV c (pos j) (wid j)) = rdTo c (j + 1) := by
  apply List.ext_getElem (by rw [List.length_set, rdTo_length, rdTo_length])
  intro i h1 h2
  simp only [rdTo, List.getElem_set, List.getElem_map, List.getElem_range]
  by_cases e : j = i
  · subst e; rw [if_pos rfl, if_pos (by omega)]
  · rw [if_neg e]
    by_cases h : i < j
    · rw [if_pos h, if_pos (by omega)]
    · rw [if_neg h, if_neg (by omega)]
theorem rdTo_full (c : List Int) : rdTo c 12 = rdS c := by
  unfold rdTo rdS
  apply List.map_congr_left
  intro i hi
  rw [if_pos (List.mem_range.1 hi)]
theorem supO_set {W : World} {g : Nat} {L : List Int} {T : TypeId} (h : W.heap[g]? = some (supO L T)) (j : Nat) (y : Int) : (W.setCell ⟨g, j, none⟩ (.int .i64 y)).heap[g]? = some (supO (L.set j y) T) := by
  rw [heap_setCell_same W g j _ _ _ h]
  simp [supO]
theorem pos_in (j : Nat) (hj : j < 12) : pos j + wid j ≤ 252 := by
  have : ∀ i, i ≤ 12 → pos i ≤ 8 + 2 * i := fun i _ => by
    induction i with
    | zero => exact Nat.le_refl _
    | succ i ih => have := ih (by omega); rw [pos]; unfold wid; split <;> omega
  have := this (j + 1) (by omega)
  rw [pos] at this; omega
theorem getN_pos {c : List Int} (hc : c.length = 252) (j : Nat) (hj : j < 12) (k : Nat) (hk : k = wid j) : getN c (pos j : Int) (k : Int) = getV c (pos j) (wid j) := by
  have := pos_in j hj
  have h1 : 1 ≤ wid j ∧ wid j ≤ 2 := by unfold wid; split <;> omega
  unfold getN
  rw [if_pos (by omega), hk]; rfl
theorem getV_fit {c : List Int} (hb : Byt c) (j : Nat) : 0 ≤ getV c (pos j) (wid j) ∧ getV c (pos j) (wid j) < 65536 := by
  have h := getV_bound (byt_mem hb) (pos j) (wid j)
  have h1 : 1 ≤ wid j ∧ wid j ≤ 2 := by unfold wid; split <;> omega
  have := pow256_le h1.2
  have e : (256 : Int) ^ 2 = 65536 := rfl
  omega

theorem infoS : (Try.prog.info? 26).map (·.size) = some 12 := by kernel_rfl
theorem wpList_loadS {ops : Array Oper} {rest : List Oper} {o : Oper} {a : Act} {w : World} {Q : Exit → Act → World → Prop} (hgd : o.guard = none) (x : Operand) (ho : o.op = .load 26 x)
    (g : Nat) (hx : a.eval x = .pointer (some ⟨g, 0, none⟩)) (L : List Int) (hL : L.length = 12) (T : TypeId) (hg : w.heap[g]? = some (supO L T)) (h : wpList Try.prog ops Q rest (a.put o.dst (supV L)) w) : wpList Try.prog ops Q (o :: rest) a w :=
  wpList_load_row hgd 26 x ho g hx T _ (0, 0) _ hg Try.underlying26 rfl (by rw [infoS]; simp [hL]) h
theorem ints_one (L : List Int) : (L.map (Value.int .i64)).toArray.all (·.oneCell') = true := by
  rw [Array.all_eq_true']
  intro v hv
  simp at hv
  obtain ⟨x, _, rfl⟩ := hv
  rfl
theorem wpList_storeS {ops : Array Oper} {rest : List Oper} {o : Oper} {a : Act} {w : World} {Q : Exit → Act → World → Prop} (hgd : o.guard = none) (x y : Operand) (ho : o.op = .store 26 x y)
    (g : Nat) (hx : a.eval x = .pointer (some ⟨g, 0, none⟩)) (L M : List Int) (hy : a.eval y = supV L) (hL : L.length = 12) (hM : M.length = 12) (T : TypeId) (hg : w.heap[g]? = some (supO M T))
    (h : ∀ w', Wrote w w' g → w'.heap[g]? = some (supO L T) → wpList Try.prog ops Q rest (a.put o.dst undef) w') : wpList Try.prog ops Q (o :: rest) a w :=
  wpList_store_row hgd 26 x y ho g _ hx hy T _ hg (by rw [infoS]; simp [hL]) (by simp [hL, hM]) (ints_one L) (h _ (Wrote.setRow _ _ _) (setRow_heap _ _ _ _ _ _ hg))
theorem ret_sup {fn : Func} {p : Tmp} (h : fn.results = #[.cell p 26]) (tmps : Array Value) (w : World) (g : Nat) (T : TypeId) (L : List Int) (hL : L.length = 12) (hp : tmps.getD p undef = .pointer (some ⟨g, 0, none⟩)) (hg : w.heap[g]? = some (supO L T)) :
    (results fn tmps).run Try.prog w = .ok (supV L) w :=
  results_cell_row h tmps w g T _ (0, 0) _ hp hg Try.underlying26 rfl (by rw [infoS]; simp [hL])

theorem sRead_of {w : World} {v : Value} {c : List Int} (hs : BSl w v c) (hc : c.length = 252) : Calls Try.prog 28 #[v] w fun e w' => e = .returned (supV (rdS c)) ∧ Below w.heap.size w w' := by
  have HS := Lib.hid hs
  have HCL := Lib.hid hc
  clear hs hc
  have hw2 : ∃ w2, w2 = (w.alloc (supO (rdTo c 0) 26)).alloc (supO (rdTo c 0) 26) := ⟨_, rfl⟩
  obtain ⟨w2, hw2⟩ := hw2
  have h2 : (w.alloc (.cells #[.int .i64 0, .int .i64 0, .int .i64 0, .int .i64 0, .int .i64 0, .int .i64 0, .int .i64 0, .int .i64 0, .int .i64 0, .int .i64 0, .int .i64 0, .int .i64 0] 26)).alloc (.cells #[.int .i64 0, .int .i64 0, .int .i64 0, .int .i64 0, .int .i64 0, .int .i64 0, .int .i64 0, .int .i64 0, .int .i64 0, .int .i64 0, .int .i64 0, .int .i64 0] 26) = w2 := by rw [hw2]; rfl
  have hb2 : Below w.heap.size w w2 := by rw [hw2]; exact ((Below.refl _ _).alloc (Nat.le_refl _) _).alloc (by simp) _
  have hr0 : w2.heap[w.heap.size]? = some (supO (rdTo c 0) 26) := by rw [hw2, heap_alloc_old _ _ (by simp)]; exact heap_alloc_new _ _
  have hr1 : w2.heap[w.heap.size + 1]? = some (supO (rdTo c 0) 26) := by rw [hw2]; exact heap_alloc2_new _ _ _
  have hz2 : w2.heap.size = w.heap.size + 2 := by rw [hw2]; simp
  have H2 := Lib.hid h2
  have HR0 := Lib.hid hr0
  have HR1 := Lib.hid hr1
  clear h2 hw2 hr0 hr1
  go_enter Try.func28, Try.ntmps28
  go_wp2_with (first
    | (go_at_call 17; rw [H2.out]; refine (sFields_of _ _).mono ?_; rintro e w4 ⟨v4, rfl, hf4, hb4⟩; obtain ⟨gf, cap, rfl, hgf, hgB, hnc, hcf⟩ := hf4.shape (by decide)))
  obtain ⟨gs, hgs⟩ : ∃ gs, gs = w.heap.size + 1 := ⟨_, rfl⟩
  have hgs4 : w4.heap[gs]? = some (supO (rdTo c 0) 26) := by rw [hgs, hb4.block _ (by omega)]; exact HR1.out
  have hgr4 : w4.heap[w.heap.size]? = some (supO (rdTo c 0) 26) := by rw [hb4.block _ (by omega)]; exact HR0.out
  have hb04 : Below w.heap.size w w4 := hb2.trans (hb4.mono (by omega))
  have hgsl : gs < w4.heap.size := (Array.getElem?_eq_some_iff.1 hgs4).1
  have hgfs : gf ≠ gs := by omega
  have hwl : w.heap.size < w4.heap.size := by omega
  rw [← hgs] at hcf ⊢
  have HG := Lib.hid hgs
  have HCF := Lib.hid hcf
  have HB04 := Lib.hid hb04
  have HGR := Lib.hid hgr4
  clear hgs hcf hb04 hgr4 hb4 hf4 hz2 hb2 hnc hgB
  go_loopw [4, 11] (fun at_ i wr => ∃ j : Nat, j ≤ 12 ∧ i = .int .i64 j ∧ at_ = .int .i64 (pos j : Int) ∧ Hid (wr.heap[gs]? = some (supO (rdTo c j) 26)) ∧ Hid (Kept w4 wr gs)) (fun _ i _ => 12 - (intOf i).toNat)
  case atStart => exact ⟨0, by omega, rfl, rfl, hgs4, Kept.refl _ _⟩
  case round =>
    obtain ⟨j, hj, rfl, rfl, HRW, HKP⟩ := hrel
    clear hgs4
    by_cases hlt : j < 12
    · have hf := HCF.out j hlt
      have hf1 : wr.cell? ⟨gf, j * 2, none⟩ = some (.pointer (some ⟨gs, j, none⟩)) := by rw [HKP.out.cell hgf hgfs]; exact hf.1
      have hf2 : wr.cell? ⟨gf, j * 2 + 1, none⟩ = some (.int .i64 (wid j : Int)) := by rw [HKP.out.cell hgf hgfs]; exact hf.2
      have hy0 := getV_fit HS.out.1 j
      have hwd : 1 ≤ wid j ∧ wid j ≤ 2 := by unfold wid; split <;> omega
      have hps := pos_in j hlt
      have hgn := getN_pos HCL.out j hlt _ rfl
      obtain ⟨y, hy⟩ : ∃ y, y = getV c (pos j) (wid j) := ⟨_, rfl⟩
      rw [← hy] at hy0 hgn
      have hnx : pos (j + 1) = pos j + wid j := rfl
      obtain ⟨P, hP⟩ : ∃ P, P = pos j := ⟨_, rfl⟩
      obtain ⟨k, hk⟩ : ∃ k, k = wid j := ⟨_, rfl⟩
      have hset := rdTo_set c j hlt
      rw [← hy] at hset
      rw [← hP] at hps hgn hnx ⊢
      rw [← hk] at hwd hps hgn hnx hf2
      have HGET : Hid (∀ W, BSl W v c → Calls Try.prog 37 #[v, .int .i64 (P : Int), .int .i64 (k : Int)] W fun e w' => ∃ B, e = .returned (.tuple #[.int .u64 y, .bool B]) ∧ W = w') := Lib.hid fun W h => by
        have := pGet_any h (by have := HCL.out; omega) (P : Int) (k : Int) (by omega) (by omega)
        rw [hgn] at this
        exact this.mono fun e w' ⟨h1, h2⟩ => ⟨_, h1, h2⟩
      have HSET := Lib.hid hset
      have ej : (j : Int) < 12 := by omega
      have hgw : gs < wr.heap.size := Nat.lt_of_lt_of_le hgsl HKP.out.2.2.2.1
      have HNX := Lib.hid hnx
      have hbw := HB04.out.trans (HKP.out.below (B := w.heap.size) (by have := HG.out; omega) (by omega))
      have HBW := Lib.hid hbw
      clear hy hP hk hset hgn hf hnx hbw
      have hwsz : wr.heap.size ≠ gs := by omega
      go_wp2_with (first
        | (go_at_call 37
           have hb5 := below_box wr (.cells #[.pointer (some ⟨gs, j, none⟩), .int .i64 (k : Int)] 52)
           have hh5 := heap_alloc_new wr (.cells #[.pointer (some ⟨gs, j, none⟩), .int .i64 (k : Int)] 52)
           generalize wr.alloc (.cells #[.pointer (some ⟨gs, j, none⟩), .int .i64 (k : Int)] 52) = W5 at hb5 hh5 ⊢
           have hr5 : W5.heap[gs]? = some (supO (rdTo c j) 26) := (hb5.block _ hgw).trans HRW.out
           have c0 : W5.cell? ⟨wr.heap.size, 0, none⟩ = some (.pointer (some ⟨gs, j, none⟩)) := by rw [cell_of_row _ _ _ _ _ _ hh5]; rfl
           have c1 : W5.cell? ⟨wr.heap.size, 1, none⟩ = some (.int .i64 (k : Int)) := by rw [cell_of_row _ _ _ _ _ _ hh5]; rfl
           have ck := sup_cell hr5 j (by rw [rdTo_length]; exact hlt)
           have fk : W5.frozen? ⟨gs, j, none⟩ = false := by simp [World.frozen?, hr5, supO]
           have hw6 := Wrote.setCell W5 gs j (.int .i64 y)
           have c6 : (W5.setCell ⟨gs, j, none⟩ (.int .i64 y)).cell? ⟨wr.heap.size, 1, none⟩ = some (.int .i64 (k : Int)) := by
             simp only [World.cell?]; rw [hw6.2.2.2.2 _ hwsz]; exact c1
           have hr6 := supO_set hr5 j y
           rw [HSET.out] at hr6
           have HK6 := Lib.hid ((HKP.out.then hb5).wrote hw6)
           have HR6 := Lib.hid hr6
           have HB5 := Lib.hid (HBW.out.trans (hb5.mono HBW.out.size))
           clear hb5 hh5 hr5 hr6 hw6 hf1 hf2 hwsz
           refine (HGET.out _ (HS.out.below HB5.out)).mono ?_
           rintro e w' ⟨B, rfl, rfl⟩))
      go_roundw
      case rel => exact ⟨j + 1, by omega, by go_num, by rw [HNX.out]; go_num, HR6.out, HK6.out⟩
      case measure => simp [intOf]; omega
    · obtain rfl : j = 12 := by omega
      have hgrw : wr.heap[w.heap.size]? = some (supO (rdTo c 0) 26) := by rw [HKP.out.2.2.2.2 _ hwl (by have := HG.out; omega)]; exact HGR.out
      have hlen := rdTo_length c 12
      have hlen0 := rdTo_length c 0
      have HBW := Lib.hid (HB04.out.trans (HKP.out.below (B := w.heap.size) (by have := HG.out; omega) (by omega)))
      go_wp2_with (first
        | (with_reducible refine wpList_loadS rfl _ rfl gs rfl _ hlen _ HRW.out ?_)
        | (with_reducible refine wpList_storeS rfl _ _ rfl w.heap.size rfl _ _ rfl hlen hlen0 _ hgrw ?_; intro w7 hw7 hr7))
      refine bodyPost_ret (ret_sup rfl _ _ w.heap.size _ _ hlen rfl hr7) rfl ⟨by rw [rdTo_full], HBW.out.trans (hw7.below (Nat.le_refl _) |>.mono (Nat.le_refl _))⟩
end Go.Proofs.Ytnpniackcdcooaa
