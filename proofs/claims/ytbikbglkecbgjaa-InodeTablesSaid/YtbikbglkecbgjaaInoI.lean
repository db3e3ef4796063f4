/- Contracts of package inode: read, Decode. -/
import Derived.Test.YtbikbglkecbgjaaInoH
import Derived.Test.YtbikbglkecbgjaaMemS
import Derived.Test.YtbikbglkecbgjaaMemQ
namespace Go.Proofs.Ytbikbglkecbgjaa
open Go.RowKit
set_option linter.unusedVariables false

theorem ret_nums {fn : Func} {p : Tmp} (T : TypeId) (h : fn.results = #[.cell p T]) (tmps : Array Value) (w : World) (g : Nat) (T' : TypeId) (L : List Int) (d : TypeDesc) (hu : Try.prog.underlying T = some d) (hd : d.isRow = true) (hi : (Try.prog.info? T).map (·.size) = some L.length)
    (hp : tmps.getD p undef = .pointer (some ⟨g, 0, none⟩)) (hg : w.heap[g]? = some (iO L T')) : (results fn tmps).run Try.prog w = .ok (.agg (iC L).toArray) w :=
  results_cell_row h tmps w g T' _ (0, 0) _ hp hg hu (by cases d <;> first | rfl | cases hd) (by rw [hi]; simp [iC])
set_option maxHeartbeats 2000000 in
theorem iRead_of {w : World} {v : Value} {c : List Int} (hs : BSl w v c) (hc : c.length = 32) : Calls Try.prog 23 #[v] w fun e w' => e = .returned (.agg (iC (rd7 c)).toArray) ∧ Below w.heap.size w w' := by
  have HS := Lib.hid hs
  have HCL := Lib.hid hc
  clear hs hc
  obtain ⟨w2, hw2⟩ : ∃ w2, w2 = (w.alloc (iO zeroI 39)).alloc (iO zeroI 39) := ⟨_, rfl⟩
  have h2 : (w.alloc (.cells #[.int .i64 0, .int .i64 0, .int .i64 0, .int .i64 0, .int .i64 0, .int .i64 0, .int .i64 0, .int .i64 0, .int .i64 0, .int .i64 0, .int .i64 0, .int .i64 0, .int .i64 0, .int .i64 0] 39)).alloc (.cells #[.int .i64 0, .int .i64 0, .int .i64 0, .int .i64 0, .int .i64 0, .int .i64 0, .int .i64 0, .int .i64 0, .int .i64 0, .int .i64 0, .int .i64 0, .int .i64 0, .int .i64 0, .int .i64 0] 39) = w2 := by rw [hw2]; rfl
  have hb2 : Below w.heap.size w w2 := by rw [hw2]; exact ((Below.refl _ _).alloc (Nat.le_refl _) _).alloc (by simp) _
  have hr0 : w2.heap[w.heap.size]? = some (iO zeroI 39) := by rw [hw2, heap_alloc_old _ _ (by simp)]; exact heap_alloc_new _ _
  have hr1 : w2.heap[w.heap.size + 1]? = some (iO zeroI 39) := by rw [hw2]; exact heap_alloc2_new _ _ _
  have hz2 : w2.heap.size = w.heap.size + 2 := by rw [hw2]; simp
  have H2 := Lib.hid h2
  have HR0 := Lib.hid hr0
  have HR1 := Lib.hid hr1
  clear h2 hw2 hr0 hr1
  go_enter Try.func23, Try.ntmps23
  go_wp2_with (first
    | (go_at_call 34; rw [H2.out]; refine (iFields_of _ _).mono ?_; rintro e w4 ⟨rfl, hb4⟩))
  obtain ⟨gs, hgs⟩ : ∃ gs, gs = w.heap.size + 1 := ⟨_, rfl⟩
  have hgs4 : w4.heap[gs]? = some (iO (rdTo7 c 0) 39) := by rw [hgs, hb4.block _ (by omega), rdTo7_zero]; exact HR1.out
  have hgr4 : w4.heap[w.heap.size]? = some (iO zeroI 39) := by rw [hb4.block _ (by omega)]; exact HR0.out
  have hb04 : Below w.heap.size w w4 := hb2.trans (hb4.mono (by omega))
  have hgsl : gs < w4.heap.size := (Array.getElem?_eq_some_iff.1 hgs4).1
  have hwl : w.heap.size < w4.heap.size := by omega
  rw [← hgs]
  have HIX := Lib.hid (fun W j hj => idx_fs7 W gs j hj)
  obtain ⟨F, hF⟩ : ∃ F, F = (fldC gs 14).toArray := ⟨_, rfl⟩
  rw [← hF] at HIX ⊢
  have HG := Lib.hid hgs
  have HB04 := Lib.hid hb04
  have HGR := Lib.hid hgr4
  clear hgs hb04 hgr4 hb4 hz2 hb2 hF
  go_loopw [4, 10] (fun at_ i wr => ∃ j : Nat, j ≤ 14 ∧ i = .int .i64 j ∧ at_ = .int .i64 (p7 j : Int) ∧ Hid (wr.heap[gs]? = some (iO (rdTo7 c j) 39)) ∧ Hid (KeptG w4 wr gs)) (fun _ i _ => 14 - (intOf i).toNat)
  case atStart => exact ⟨0, by omega, rfl, rfl, hgs4, KeptG.refl _ _⟩
  case round =>
    obtain ⟨j, hj, rfl, rfl, HRW, HKP⟩ := hrel
    clear hgs4
    by_cases hlt : j < 14
    · have hix := HIX.out wr j hlt
      have hy0 := getV7 HS.out.1 j
      have hwd := w7_le j
      have hps := p7_in j hlt
      have hcl := HCL.out
      have hgn := fun W (h : BSl W v c) => pGetW h (by omega) (p7 j) (w7 j) (p7 j : Int) (w7 j : Int) rfl rfl (by omega) (by omega) (by omega) _ rfl
      have hset := rdTo7_set c j
      obtain ⟨y, hy⟩ : ∃ y, y = getV c (p7 j) (w7 j) := ⟨_, rfl⟩
      rw [← hy] at hy0 hgn hset
      have hnx : p7 (j + 1) = p7 j + w7 j := rfl
      obtain ⟨P, hP⟩ : ∃ P, P = p7 j := ⟨_, rfl⟩
      obtain ⟨k, hk⟩ : ∃ k, k = w7 j := ⟨_, rfl⟩
      rw [← hP] at hps hgn hnx ⊢
      rw [← hk] at hwd hps hgn hnx hix
      have HGET := Lib.hid hgn
      have HSET := Lib.hid hset
      have ej : (j : Int) < 14 := by omega
      have hgw : gs < wr.heap.size := Nat.lt_of_lt_of_le hgsl HKP.out.2.2.2.1
      have HNX := Lib.hid hnx
      have hbw := HB04.out.trans (HKP.out.below (B := w.heap.size) (by have := HG.out; omega) (by omega))
      have HBW := Lib.hid hbw
      clear hy hP hk hset hgn hnx hbw hcl
      have hwsz : wr.heap.size ≠ gs := by omega
      go_wp2_with (first
        | (go_at_call 33
           have hb5 := below_box wr (.cells #[.pointer (some ⟨gs, j, none⟩), .int .i64 (k : Int)] 67)
           have hh5 := heap_alloc_new wr (.cells #[.pointer (some ⟨gs, j, none⟩), .int .i64 (k : Int)] 67)
           generalize wr.alloc (.cells #[.pointer (some ⟨gs, j, none⟩), .int .i64 (k : Int)] 67) = W5 at hb5 hh5 ⊢
           have hr5 : W5.heap[gs]? = some (iO (rdTo7 c j) 39) := (hb5.block _ hgw).trans HRW.out
           have c0 : W5.cell? ⟨wr.heap.size, 0, none⟩ = some (.pointer (some ⟨gs, j, none⟩)) := by rw [cell_of_row _ _ _ _ _ _ hh5]; rfl
           have c1 : W5.cell? ⟨wr.heap.size, 1, none⟩ = some (.int .i64 (k : Int)) := by rw [cell_of_row _ _ _ _ _ _ hh5]; rfl
           have ck := io_cell hr5 j (by rw [rdTo7_length]; exact hlt)
           have fk := io_free hr5 j
           have hw6 := Wrote.setCell W5 gs j (.int .i64 y)
           have c6 : (W5.setCell ⟨gs, j, none⟩ (.int .i64 y)).cell? ⟨wr.heap.size, 1, none⟩ = some (.int .i64 (k : Int)) := by
             simp only [World.cell?]; rw [hw6.2.2.2.2 _ hwsz]; exact c1
           have hr6 := io_set hr5 j y
           rw [HSET.out] at hr6
           have HK6 := Lib.hid ((HKP.out.then hb5).wrote hw6)
           have HR6 := Lib.hid hr6
           have HB5 := Lib.hid (HBW.out.trans (hb5.mono HBW.out.size))
           clear hb5 hh5 hr5 hr6 hw6 hwsz
           refine (HGET.out _ (HS.out.below HB5.out)).mono ?_
           rintro e w' ⟨rfl, rfl⟩))
      go_roundw
      case rel => exact ⟨j + 1, by omega, by go_num, by rw [HNX.out]; go_num, HR6.out, HK6.out⟩
      case measure => simp [intOf]; omega
    · obtain rfl : j = 14 := by omega
      have hgrw : wr.heap[w.heap.size]? = some (iO zeroI 39) := by rw [HKP.out.2.2.2.2 _ hwl (by have := HG.out; omega)]; exact HGR.out
      have hlen := rdTo7_length c 14
      have HRG := Lib.hid (io_range HRW.out)
      have HI : Hid ((Try.prog.info? 39).map (·.size) = some (rdTo7 c 14).length) := Lib.hid (by rw [infoN7, hlen])
      have HZL : Hid (zeroI.length = (rdTo7 c 14).length) := Lib.hid (by rw [hlen]; rfl)
      have HBW := Lib.hid (HB04.out.trans (HKP.out.below (B := w.heap.size) (by have := HG.out; omega) (by omega)))
      have u1 := Try.underlying39
      go_wp2_with (first
        | (with_reducible refine wpList_load_nums rfl 39 (.tmp 3) rfl gs 0 rfl (rdTo7 c 14) _ HRG.out u1 rfl HI.out ?_)
        | (with_reducible refine wpList_store_nums rfl 39 (.tmp 2) (.tmp 31) rfl w.heap.size rfl (rdTo7 c 14) zeroI rfl HZL.out HI.out _ hgrw ?_; intro w7 hw7 hr7))
      refine bodyPost_ret (ret_nums 39 rfl _ _ w.heap.size _ _ _ u1 rfl HI.out rfl hr7) rfl ⟨by rw [rdTo7_full], HBW.out.trans (hw7.below (Nat.le_refl _))⟩

/-- Inodes of one's own, laid flat. -/
theorem flat14 {O : List (List Int)} (h : Len14 O) : ∀ x ∈ O, (iC x).length = 14 := fun x hx => by rw [iC_length]; exact h x hx
def nC (O : List (List Int)) : List Value := O.flatMap iC
theorem nC_length {O : List (List Int)} (h : Len14 O) : (nC O).length = O.length * 14 := flat_length (flat14 h)
/-- A []Inode of one's own, from block B on, that reads as O. -/
def NR (w : World) (B : Nat) (T : TypeId) (v : Value) (O : List (List Int)) : Prop := Len14 O ∧ w.ownsRow B T 14 v O.length (nC O)
theorem NR.below {w w' : World} {B : Nat} {T : TypeId} {v : Value} {O : List (List Int)} (h : NR w B T v O) (hb : Below w.heap.size w w') : NR w' B T v O := by
  refine ⟨h.1, h.2.1, ?_⟩
  rcases h.2.2 with h | ⟨g, cap, cur, hv, hg, hh, r⟩
  · exact .inl h
  · exact .inr ⟨g, cap, cur, hv, hg, by rw [hb.block g (Array.getElem?_eq_some_iff.1 hh).1]; exact hh, r⟩
theorem nr_nil (w : World) (B : Nat) (T : TypeId) : NR w B T (.slice none 0 0) [] := ⟨len14_nil, World.ownsRow_nil w B _ _⟩
theorem NR.sl {w : World} {B : Nat} {T : TypeId} {v : Value} {O : List (List Int)} (h : NR w B T v O) : NSl w v O := by
  refine ⟨h.1, ?_⟩
  rcases h.2.2 with ⟨hv, hl⟩ | ⟨g, cap, cur, hv, hg, hh, hnc, hcm, hcs, ht⟩
  · exact .inl ⟨hv, List.eq_nil_of_length_eq_zero hl⟩
  · refine .inr ⟨_, cap, hv, fun j hj => ⟨(Array.getElem?_eq_some_iff.1 hh).1, rfl, fun i u hu => ?_⟩⟩
    have hlen : (O.getD j []).length = 14 := len14_get h.1 j hj
    have hi : i < 14 := by have := (List.getElem?_eq_some_iff.1 hu).1; rw [iC_length, hlen] at this; exact this
    have hle : j * 14 + 14 ≤ O.length * 14 := by omega
    show w.cell? ⟨g, 0 + j * 14 + i, none⟩ = _
    rw [Nat.zero_add, cell_of_row _ _ _ _ _ _ hh]
    have hf := flat_get (f := iC) (s := 14) (L := O) (flat14 h.1) j hj
    have e : O.getD j [] = O[j] := by simp [List.getD_eq_getElem?_getD, hj]
    rw [e, ← hf, List.getElem?_take, if_pos hi, List.getElem?_drop] at hu
    have ht' : (cur.toList.take (O.length * 14))[j * 14 + i]? = (nC O)[j * 14 + i]? := by rw [ht]
    rw [List.getElem?_take, if_pos (by omega)] at ht'
    rw [nC, hu] at ht'
    simpa using ht'
theorem NR.of_row {w : World} {B g : Nat} {T : TypeId} {O : List (List Int)} (h : Len14 O) (hB : B ≤ g) (hg : w.heap[g]? = some (.cells (nC O).toArray T (0, 0))) (hm : O.length ≤ maxLen) : NR w B T (.slice (some ⟨g, 0, none⟩) O.length O.length) O := by
  refine ⟨h, nC_length h, .inr ⟨g, O.length, _, rfl, hB, hg, Nat.le_refl _, hm, by simp [nC_length h], ?_⟩⟩
  rw [List.take_of_length_le (by simp [nC_length h])]
theorem infoNz : (Try.prog.info? 39).map (fun i => (i.zero, i.size, i.bytes)) = some (some (.agg #[.int .i64 0, .int .i64 0, .int .i64 0, .int .i64 0, .int .i64 0, .int .i64 0, .int .i64 0, .int .i64 0, .int .i64 0, .int .i64 0, .int .i64 0, .int .i64 0, .int .i64 0, .int .i64 0]), 14, 112) := by kernel_rfl
theorem flat_rep {α : Type} (f : α → List Value) (x : α) (s : Nat) (hs : (f x).length = s) : ∀ (n i : Nat), i < n * s → ((List.replicate n x).flatMap f)[i]? = (f x)[i % s]?
  | 0, i, h => by omega
  | n + 1, i, h => by
    rw [List.replicate_succ, List.flatMap_cons]
    by_cases hi : i < s
    · rw [List.getElem?_append_left (by omega), Nat.mod_eq_of_lt hi]
    · rw [List.getElem?_append_right (by omega), hs, flat_rep f x s hs n (i - s) (by rw [Nat.succ_mul] at h; omega), show i % s = (i - s) % s from Nat.mod_eq_sub_mod (by omega)]
theorem made_ino (n : Nat) : madeCells (Value.agg #[.int .i64 0, .int .i64 0, .int .i64 0, .int .i64 0, .int .i64 0, .int .i64 0, .int .i64 0, .int .i64 0, .int .i64 0, .int .i64 0, .int .i64 0, .int .i64 0, .int .i64 0, .int .i64 0]).cells (n * 14) = (nC (List.replicate n zeroI)).toArray := by
  have hl : (nC (List.replicate n zeroI)).length = n * 14 := by
    rw [nC_length (fun x hx => by rw [List.eq_of_mem_replicate hx]; rfl), List.length_replicate]
  apply Array.ext
  · simp [size_madeCells, hl]
  · intro i h1 h2
    have hi : i < n * 14 := by simpa [size_madeCells] using h1
    have hz := flat_rep iC zeroI 14 rfl n i hi
    have h3 : (nC (List.replicate n zeroI))[i]? = some (.int .i64 0) := by
      rw [nC, hz]
      have : i % 14 < 14 := Nat.mod_lt _ (by decide)
      have : i % 14 = 0 ∨ i % 14 = 1 ∨ i % 14 = 2 ∨ i % 14 = 3 ∨ i % 14 = 4 ∨ i % 14 = 5 ∨ i % 14 = 6 ∨ i % 14 = 7 ∨ i % 14 = 8 ∨ i % 14 = 9 ∨ i % 14 = 10 ∨ i % 14 = 11 ∨ i % 14 = 12 ∨ i % 14 = 13 := by omega
      rcases this with e | e | e | e | e | e | e | e | e | e | e | e | e | e <;> rw [e] <;> rfl
    have h4 : (nC (List.replicate n zeroI)).toArray[i] = .int .i64 0 := by
      have := (List.getElem?_eq_some_iff.1 h3).2
      simpa using this
    rw [h4]
    simp only [madeCells, Value.cells, Array.getElem_map, Array.getElem_range]
    have : i % 14 < 14 := Nat.mod_lt _ (by decide)
    have : i % 14 = 0 ∨ i % 14 = 1 ∨ i % 14 = 2 ∨ i % 14 = 3 ∨ i % 14 = 4 ∨ i % 14 = 5 ∨ i % 14 = 6 ∨ i % 14 = 7 ∨ i % 14 = 8 ∨ i % 14 = 9 ∨ i % 14 = 10 ∨ i % 14 = 11 ∨ i % 14 = 12 ∨ i % 14 = 13 := by omega
    rcases this with e | e | e | e | e | e | e | e | e | e | e | e | e | e <;> simp [e]
/-- make([]Inode, n). -/
theorem wpList_make_ino (w : World) {ops : Array Oper} {rest : List Oper} {o : Oper} {a : Act} {Q : Exit → Act → World → Prop}
    (hg : o.guard = none) (l c : Operand) (hop : o.op = Op.makeSlice 28 l c) (C : Int) (n : Nat) (hl : a.eval l = .int .i64 C) (hc : a.eval c = .int .i64 C) (hC : C = n) (hn : n ≤ 1000000)
    (hK : wpList Try.prog ops Q rest (a.put o.dst (.slice (some ⟨w.heap.size, 0, none⟩) n n)) (w.alloc (.cells (nC (List.replicate n zeroI)).toArray 39))) :
    wpList Try.prog ops Q (o :: rest) a w := by
  refine wpList_plain hg fun K hK' => ?_
  obtain ⟨i, h2, h3, h4, h5⟩ := info_parts infoNz
  subst hC
  have hrun := run_make (P := Try.prog) w 28 39 i (.agg #[.int .i64 0, .int .i64 0, .int .i64 0, .int .i64 0, .int .i64 0, .int .i64 0, .int .i64 0, .int .i64 0, .int .i64 0, .int .i64 0, .int .i64 0, .int .i64 0, .int .i64 0, .int .i64 0]) Try.underlying28 h2 h3 .i64 .i64 n n (by omega) (by omega) (by rw [h5]; omega) (by omega)
  unfold Oper.wp
  simp only [Int.toNat_natCast, h4, made_ino] at hrun
  simp [execOp, hop, hl, hc, hrun, Result.andThen]
  exact hK' _ _ hK
end Go.Proofs.Ytbikbglkecbgjaa
