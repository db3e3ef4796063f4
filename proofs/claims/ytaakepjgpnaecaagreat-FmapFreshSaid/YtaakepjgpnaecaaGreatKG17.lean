/- What the law rests on: part 17. -/
import Derived.Test.YtaakepjgpnaecaaGreatKG16
set_option linter.unusedVariables false
namespace Go.Proofs.YtaakepjgpnaecaaGreat
set_option maxRecDepth 100000
open Go.RowKit
theorem ret_nums {fn : Func} {p : Tmp} (T : TypeId) (h : fn.results = #[.cell p T]) (tmps : Array Value) (w : World) (g : Nat) (T' : TypeId) (L : List Int) (d : TypeDesc) (hu : Tryz.prog.underlying T = some d) (hd : d.isRow = true) (hi : (Tryz.prog.info? T).map (·.size) = some L.length)
    (hp : tmps.getD p undef = .pointer (some ⟨g, 0, none⟩)) (hg : w.heap[g]? = some (iO L T')) : (results fn tmps).run Tryz.prog w = .ok (.agg (iC L).toArray) w :=
  results_cell_row h tmps w g T' _ (0, 0) _ hp hg hu (by cases d <;> first | rfl | cases hd) (by rw [hi]; simp [iC])
set_option maxHeartbeats 2000000 in
theorem iRead_of {w : World} {v : Value} {c : List Int} (hs : BSl w v c) (hc : c.length = 32) : Calls Tryz.prog 180 #[v] w fun e w' => e = .returned (.agg (iC (rd7 c)).toArray) ∧ Below w.heap.size w w' := by
  have HS := Lib.hid hs
  have HCL := Lib.hid hc
  clear hs hc
  obtain ⟨w2, hw2⟩ : ∃ w2, w2 = (w.alloc (iO zeroI 92)).alloc (iO zeroI 92) := ⟨_, rfl⟩
  have h2 : (w.alloc (.cells #[.int .i64 0, .int .i64 0, .int .i64 0, .int .i64 0, .int .i64 0, .int .i64 0, .int .i64 0, .int .i64 0, .int .i64 0, .int .i64 0, .int .i64 0, .int .i64 0, .int .i64 0, .int .i64 0] 92)).alloc (.cells #[.int .i64 0, .int .i64 0, .int .i64 0, .int .i64 0, .int .i64 0, .int .i64 0, .int .i64 0, .int .i64 0, .int .i64 0, .int .i64 0, .int .i64 0, .int .i64 0, .int .i64 0, .int .i64 0] 92) = w2 := by rw [hw2]; rfl
  have hb2 : Below w.heap.size w w2 := by rw [hw2]; exact ((Below.refl _ _).alloc (Nat.le_refl _) _).alloc (by simp) _
  have hr0 : w2.heap[w.heap.size]? = some (iO zeroI 92) := by rw [hw2, heap_alloc_old _ _ (by simp)]; exact heap_alloc_new _ _
  have hr1 : w2.heap[w.heap.size + 1]? = some (iO zeroI 92) := by rw [hw2]; exact heap_alloc2_new _ _ _
  have hz2 : w2.heap.size = w.heap.size + 2 := by rw [hw2]; simp
  have H2 := Lib.hid h2
  have HR0 := Lib.hid hr0
  have HR1 := Lib.hid hr1
  clear h2 hw2 hr0 hr1
  go_enter Tryz.func180, Tryz.ntmps180
  go_wp2_with (first
    | (go_at_call 181; rw [H2.out]; refine (iFields_of _ _).mono ?_; rintro e w4 ⟨rfl, hb4⟩))
  obtain ⟨gs, hgs⟩ : ∃ gs, gs = w.heap.size + 1 := ⟨_, rfl⟩
  have hgs4 : w4.heap[gs]? = some (iO (rdTo7 c 0) 92) := by rw [hgs, hb4.block _ (by omega), rdTo7_zero]; exact HR1.out
  have hgr4 : w4.heap[w.heap.size]? = some (iO zeroI 92) := by rw [hb4.block _ (by omega)]; exact HR0.out
  have hb04 : Below w.heap.size w w4 := hb2.trans (hb4.mono (by omega))
  have hgsl : gs < w4.heap.size := (Array.getElem?_eq_some_iff.1 hgs4).1
  have hwl : w.heap.size < w4.heap.size := by omega
  rw [← hgs]
  have HIX := Lib.hid (fun W j hj => idx_fs7 W gs j hj)
  obtain ⟨F, hF⟩ : ∃ F, F = (fldC gs 14).toArray := ⟨_, rfl⟩
  rw [← hF] at HIX ⊢
  have HG := Lib.hid hgs
  have HB04 := Lib.hid hb04
  have HGR := Lib.hid hgr4
  clear hgs hb04 hgr4 hb4 hz2 hb2 hF
  go_loopw [4, 10] (fun at_ i wr => ∃ j : Nat, j ≤ 14 ∧ i = .int .i64 j ∧ at_ = .int .i64 (p7 j : Int) ∧ Hid (wr.heap[gs]? = some (iO (rdTo7 c j) 92)) ∧ Hid (KeptG w4 wr gs)) (fun _ i _ => 14 - (intOf i).toNat)
  case atStart => exact ⟨0, by omega, rfl, rfl, hgs4, KeptG.refl _ _⟩
  case round =>
    obtain ⟨j, hj, rfl, rfl, HRW, HKP⟩ := hrel
    clear hgs4
    by_cases hlt : j < 14
    · have hix := HIX.out wr j hlt
      have hy0 := getV7 HS.out.1 j
      have hwd := w7_le j
      have hps := p7_in j hlt
      have hcl := HCL.out
      have hgn := fun W (h : BSl W v c) => pGetW h (by omega) (p7 j) (w7 j) (p7 j : Int) (w7 j : Int) rfl rfl (by omega) (by omega) (by omega) _ rfl
      have hset := rdTo7_set c j
      obtain ⟨y, hy⟩ : ∃ y, y = getV c (p7 j) (w7 j) := ⟨_, rfl⟩
      rw [← hy] at hy0 hgn hset
      have hnx : p7 (j + 1) = p7 j + w7 j := rfl
      obtain ⟨P, hP⟩ : ∃ P, P = p7 j := ⟨_, rfl⟩
      obtain ⟨k, hk⟩ : ∃ k, k = w7 j := ⟨_, rfl⟩
      rw [← hP] at hps hgn hnx ⊢
      rw [← hk] at hwd hps hgn hnx hix
      have HGET := Lib.hid hgn
      have HSET := Lib.hid hset
      have ej : (j : Int) < 14 := by omega
      have hgw : gs < wr.heap.size := Nat.lt_of_lt_of_le hgsl HKP.out.2.2.2.1
      have HNX := Lib.hid hnx
      have hbw := HB04.out.trans (HKP.out.below (B := w.heap.size) (by have := HG.out; omega) (by omega))
      have HBW := Lib.hid hbw
      clear hy hP hk hset hgn hnx hbw hcl
      have hwsz : wr.heap.size ≠ gs := by omega
      go_wp2_with (first
        | (go_at_call 110
           have hb5 := below_box wr (.cells #[.pointer (some ⟨gs, j, none⟩), .int .i64 (k : Int)] 245)
           have hh5 := heap_alloc_new wr (.cells #[.pointer (some ⟨gs, j, none⟩), .int .i64 (k : Int)] 245)
           generalize wr.alloc (.cells #[.pointer (some ⟨gs, j, none⟩), .int .i64 (k : Int)] 245) = W5 at hb5 hh5 ⊢
           have hr5 : W5.heap[gs]? = some (iO (rdTo7 c j) 92) := (hb5.block _ hgw).trans HRW.out
           have c0 : W5.cell? ⟨wr.heap.size, 0, none⟩ = some (.pointer (some ⟨gs, j, none⟩)) := by rw [cell_of_row _ _ _ _ _ _ hh5]; rfl
           have c1 : W5.cell? ⟨wr.heap.size, 1, none⟩ = some (.int .i64 (k : Int)) := by rw [cell_of_row _ _ _ _ _ _ hh5]; rfl
           have ck := io_cell hr5 j (by rw [rdTo7_length]; exact hlt)
           have fk := io_free hr5 j
           have hw6 := Wrote.setCell W5 gs j (.int .i64 y)
           have c6 : (W5.setCell ⟨gs, j, none⟩ (.int .i64 y)).cell? ⟨wr.heap.size, 1, none⟩ = some (.int .i64 (k : Int)) := by
             simp only [World.cell?]; rw [hw6.2.2.2.2 _ hwsz]; exact c1
           have hr6 := io_set hr5 j y
           rw [HSET.out] at hr6
           have HK6 := Lib.hid ((HKP.out.then hb5).wrote hw6)
           have HR6 := Lib.hid hr6
           have HB5 := Lib.hid (HBW.out.trans (hb5.mono HBW.out.size))
           clear hb5 hh5 hr5 hr6 hw6 hwsz
           refine (HGET.out _ (HS.out.below HB5.out)).mono ?_
           rintro e w' ⟨rfl, rfl⟩))
      go_roundw
      case rel => exact ⟨j + 1, by omega, by go_num, by rw [HNX.out]; go_num, HR6.out, HK6.out⟩
      case measure => simp [intOf]; omega
    · obtain rfl : j = 14 := by omega
      have hgrw : wr.heap[w.heap.size]? = some (iO zeroI 92) := by rw [HKP.out.2.2.2.2 _ hwl (by have := HG.out; omega)]; exact HGR.out
      have hlen := rdTo7_length c 14
      have HRG := Lib.hid (io_range HRW.out)
      have HI : Hid ((Tryz.prog.info? 92).map (·.size) = some (rdTo7 c 14).length) := Lib.hid (by rw [infoN7, hlen])
      have HZL : Hid (zeroI.length = (rdTo7 c 14).length) := Lib.hid (by rw [hlen]; rfl)
      have HBW := Lib.hid (HB04.out.trans (HKP.out.below (B := w.heap.size) (by have := HG.out; omega) (by omega)))
      have u1 := Tryz.underlying92
      go_wp2_with (first
        | (with_reducible refine wpList_load_nums rfl 92 (.tmp 3) rfl gs 0 rfl (rdTo7 c 14) _ HRG.out u1 rfl HI.out ?_)
        | (with_reducible refine wpList_store_nums rfl 92 (.tmp 2) (.tmp 31) rfl w.heap.size rfl (rdTo7 c 14) zeroI rfl HZL.out HI.out _ hgrw ?_; intro w7 hw7 hr7))
      refine bodyPost_ret (ret_nums 92 rfl _ _ w.heap.size _ _ _ u1 rfl HI.out rfl hr7) rfl ⟨by rw [rdTo7_full], HBW.out.trans (hw7.below (Nat.le_refl _))⟩
theorem flat14 {O : List (List Int)} (h : Len14 O) : ∀ x ∈ O, (iC x).length = 14 := fun x hx => by rw [iC_length]; exact h x hx
def nC (O : List (List Int)) : List Value := O.flatMap iC
theorem nC_length {O : List (List Int)} (h : Len14 O) : (nC O).length = O.length * 14 := flat_length (flat14 h)
def NR (w : World) (B : Nat) (T : TypeId) (v : Value) (O : List (List Int)) : Prop := Len14 O ∧ w.ownsRow B T 14 v O.length (nC O)
theorem NR.sl {w : World} {B : Nat} {T : TypeId} {v : Value} {O : List (List Int)} (h : NR w B T v O) : NSl w v O := by
  refine ⟨h.1, ?_⟩
  rcases h.2.2 with ⟨hv, hl⟩ | ⟨g, cap, cur, hv, hg, hh, hnc, hcm, hcs, ht⟩
  · exact .inl ⟨hv, List.eq_nil_of_length_eq_zero hl⟩
  · refine .inr ⟨_, cap, hv, fun j hj => ⟨(Array.getElem?_eq_some_iff.1 hh).1, rfl, fun i u hu => ?_⟩⟩
    have hlen : (O.getD j []).length = 14 := len14_get h.1 j hj
    have hi : i < 14 := by have := (List.getElem?_eq_some_iff.1 hu).1; rw [iC_length, hlen] at this; exact this
    have hle : j * 14 + 14 ≤ O.length * 14 := by omega
    show w.cell? ⟨g, 0 + j * 14 + i, none⟩ = _
    rw [Nat.zero_add, cell_of_row _ _ _ _ _ _ hh]
    have hf := flat_get (f := iC) (s := 14) (L := O) (flat14 h.1) j hj
    have e : O.getD j [] = O[j] := by simp [List.getD_eq_getElem?_getD, hj]
    rw [e, ← hf, List.getElem?_take, if_pos hi, List.getElem?_drop] at hu
    have ht' : (cur.toList.take (O.length * 14))[j * 14 + i]? = (nC O)[j * 14 + i]? := by rw [ht]
    rw [List.getElem?_take, if_pos (by omega)] at ht'
    rw [nC, hu] at ht'
    simpa using ht'
theorem NR.of_row {w : World} {B g : Nat} {T : TypeId} {O : List (List Int)} (h : Len14 O) (hB : B ≤ g) (hg : w.heap[g]? = some (.cells (nC O).toArray T (0, 0))) (hm : O.length ≤ maxLen) : NR w B T (.slice (some ⟨g, 0, none⟩) O.length O.length) O := by
  refine ⟨h, nC_length h, .inr ⟨g, O.length, _, rfl, hB, hg, Nat.le_refl _, hm, by simp [nC_length h], ?_⟩⟩
  rw [List.take_of_length_le (by simp [nC_length h])]
theorem infoNz : (Tryz.prog.info? 92).map (fun i => (i.zero, i.size, i.bytes)) = some (some (.agg #[.int .i64 0, .int .i64 0, .int .i64 0, .int .i64 0, .int .i64 0, .int .i64 0, .int .i64 0, .int .i64 0, .int .i64 0, .int .i64 0, .int .i64 0, .int .i64 0, .int .i64 0, .int .i64 0]), 14, 112) := by kernel_rfl
theorem flat_rep {α : Type} (f : α → List Value) (x : α) (s : Nat) (hs : (f x).length = s) : ∀ (n i : Nat), i < n * s → ((List.replicate n x).flatMap f)[i]? = (f x)[i % s]?
  | 0, i, h => by omega
  | n + 1, i, h => by
    rw [List.replicate_succ, List.flatMap_cons]
    by_cases hi : i < s
    · rw [List.getElem?_append_left (by omega), Nat.mod_eq_of_lt hi]
    · rw [List.getElem?_append_right (by omega), hs, flat_rep f x s hs n (i - s) (by rw [Nat.succ_mul] at h; omega), show i % s = (i - s) % s from Nat.mod_eq_sub_mod (by omega)]
theorem made_ino (n : Nat) : madeCells (Value.agg #[.int .i64 0, .int .i64 0, .int .i64 0, .int .i64 0, .int .i64 0, .int .i64 0, .int .i64 0, .int .i64 0, .int .i64 0, .int .i64 0, .int .i64 0, .int .i64 0, .int .i64 0, .int .i64 0]).cells (n * 14) = (nC (List.replicate n zeroI)).toArray := by
  have hl : (nC (List.replicate n zeroI)).length = n * 14 := by
    rw [nC_length (fun x hx => by rw [List.eq_of_mem_replicate hx]; rfl), List.length_replicate]
  apply Array.ext
  · simp [size_madeCells, hl]
  · intro i h1 h2
    have hi : i < n * 14 := by simpa [size_madeCells] using h1
    have hz := flat_rep iC zeroI 14 rfl n i hi
    have h3 : (nC (List.replicate n zeroI))[i]? = some (.int .i64 0) := by
      rw [nC, hz]
      have : i % 14 < 14 := Nat.mod_lt _ (by decide)
      have : i % 14 = 0 ∨ i % 14 = 1 ∨ i % 14 = 2 ∨ i % 14 = 3 ∨ i % 14 = 4 ∨ i % 14 = 5 ∨ i % 14 = 6 ∨ i % 14 = 7 ∨ i % 14 = 8 ∨ i % 14 = 9 ∨ i % 14 = 10 ∨ i % 14 = 11 ∨ i % 14 = 12 ∨ i % 14 = 13 := by omega
      rcases this with e | e | e | e | e | e | e | e | e | e | e | e | e | e <;> rw [e] <;> rfl
    have h4 : (nC (List.replicate n zeroI)).toArray[i] = .int .i64 0 := by
      have := (List.getElem?_eq_some_iff.1 h3).2
      simpa using this
    rw [h4]
    simp only [madeCells, Value.cells, Array.getElem_map, Array.getElem_range]
    have : i % 14 < 14 := Nat.mod_lt _ (by decide)
    have : i % 14 = 0 ∨ i % 14 = 1 ∨ i % 14 = 2 ∨ i % 14 = 3 ∨ i % 14 = 4 ∨ i % 14 = 5 ∨ i % 14 = 6 ∨ i % 14 = 7 ∨ i % 14 = 8 ∨ i % 14 = 9 ∨ i % 14 = 10 ∨ i % 14 = 11 ∨ i % 14 = 12 ∨ i % 14 = 13 := by omega
    rcases this with e | e | e | e | e | e | e | e | e | e | e | e | e | e <;> simp [e]
theorem wpList_make_ino (w : World) {ops : Array Oper} {rest : List Oper} {o : Oper} {a : Act} {Q : Exit → Act → World → Prop}
    (hg : o.guard = none) (l c : Operand) (hop : o.op = Op.makeSlice 158 l c) (C : Int) (n : Nat) (hl : a.eval l = .int .i64 C) (hc : a.eval c = .int .i64 C) (hC : C = n) (hn : n ≤ 1000000)
    (hK : wpList Tryz.prog ops Q rest (a.put o.dst (.slice (some ⟨w.heap.size, 0, none⟩) n n)) (w.alloc (.cells (nC (List.replicate n zeroI)).toArray 92))) :
    wpList Tryz.prog ops Q (o :: rest) a w := by
  refine wpList_plain hg fun K hK' => ?_
  obtain ⟨i, h2, h3, h4, h5⟩ := info_parts infoNz
  subst hC
  have hrun := run_make (P := Tryz.prog) w 158 92 i (.agg #[.int .i64 0, .int .i64 0, .int .i64 0, .int .i64 0, .int .i64 0, .int .i64 0, .int .i64 0, .int .i64 0, .int .i64 0, .int .i64 0, .int .i64 0, .int .i64 0, .int .i64 0, .int .i64 0]) Tryz.underlying158 h2 h3 .i64 .i64 n n (by omega) (by omega) (by rw [h5]; omega) (by omega)
  unfold Oper.wp
  simp only [Int.toNat_natCast, h4, made_ino] at hrun
  simp [execOp, hop, hl, hc, hrun, Result.andThen]
  exact hK' _ _ hK
def DecR7 (l : List Int) (w : World) (e : Ending) (w' : World) : Prop :=
  (hasT l ∧ ∃ g, e = .returned (.tuple #[.slice (some ⟨g, 0, none⟩) 8 8, .int .i64 0]) ∧ w.heap.size ≤ g ∧ w'.heap[g]? = some (.cells (nC (rdT l 8)).toArray 92 (0, 0)) ∧ Below w.heap.size w w') ∨
  (¬ hasT l ∧ e = .returned (.tuple #[.slice none 0 0, .int .i64 18]) ∧ Below w.heap.size w w')
theorem iEnc_yes {w : World} {v : Value} {O : List (List Int)} (hs : NSl w v O) (h : allF O = true) : Calls Tryz.prog 104 #[v] w fun e w' => ∃ u, e = .returned (.tuple #[u, .int .i64 0]) ∧ OB w' w.heap.size u (encT O) ∧ Below w.heap.size w w' :=
  (iEnc_any hs).mono fun e w' ho => ho.elim (fun h1 => h1.2) fun h1 => by rw [h] at h1; cases h1.1
theorem iEnc_no {w : World} {v : Value} {O : List (List Int)} (hs : NSl w v O) (h : allF O = false) : Calls Tryz.prog 104 #[v] w fun e w' => e = .returned (.tuple #[.slice none 0 0, .int .i64 1]) ∧ Below w.heap.size w w' :=
  (iEnc_any hs).mono fun e w' ho => ho.elim (fun h1 => by rw [h] at h1; cases h1.1) fun h1 => h1.2
set_option maxHeartbeats 2000000 in
theorem iDec_row {w : World} {v : Value} {l : List Int} (hs : BSl w v l) (hl : l.length = 256) : Calls Tryz.prog 142 #[v] w (DecR7 l w) := by
  obtain ⟨b, off, cap, rfl, hcap, hb⟩ := hs.open' (by omega)
  obtain ⟨M, hMM⟩ : ∃ M : Nat, M = 8 := ⟨_, rfl⟩
  have HMI : Hid ((8 : Int) = (M : Int)) := Lib.hid (by omega)
  have hM1 : M ≤ 1000 := by omega
  have HM := Lib.hid hMM
  have HS := Lib.hid hs
  have HL := Lib.hid hl
  have HMID := Lib.hid (fun W (h : BSl W (.slice (some ⟨b, off, none⟩) l.length cap) l) lo (hm : lo + 32 ≤ l.length) => h.mid lo 32 hm)
  rw [hl] at HS HMID hcap ⊢
  clear hMM hs hl
  go_enter Tryz.func142, Tryz.ntmps142
  go_wp2_with (at_make; refine wpList_make_ino _ rfl _ _ rfl _ M rfl rfl HMI.out (by omega) ?_)
  have hz : (w.alloc (.cells (nC (List.replicate M zeroI)).toArray 92)).heap[w.heap.size]? = some (.cells (nC (rdTill7 l M 0)).toArray 92 (0, 0)) := by
    rw [rdTill7_zero]; exact heap_alloc_new w _
  have hb2 : Below w.heap.size w (w.alloc (.cells (nC (List.replicate M zeroI)).toArray 92)) := below_box _ _
  generalize w.alloc (.cells (nC (List.replicate M zeroI)).toArray 92) = w2 at hz hb2 ⊢
  have HZ := Lib.hid hz
  clear hz
  go_loopw [14] (fun i wr => ∃ k : Nat, k ≤ M ∧ i = .int .i64 k ∧ Hid (wr.heap[w.heap.size]? = some (.cells (nC (rdTill7 l M k)).toArray 92 (0, 0))) ∧ Below w.heap.size w wr) (fun i _ => M - (intOf i).toNat)
  case atStart => exact ⟨0, by omega, rfl, HZ, hb2⟩
  case round =>
    obtain ⟨k, hk, rfl, HR, hbr⟩ := hrel
    clear HZ hb2
    by_cases hlt : k < M
    · have ekM : (k : Int) < (M : Int) := by omega
      have hk8 : k < 8 := by have := HM.out; omega
      have hsr := HMID.out _ (HS.out.below hbr) (32 * k) (by omega)
      have hch : (l.drop (32 * k)).take 32 = chunk l k := rfl
      rw [hch] at hsr
      have KR := Lib.hid (iRead_of hsr (chunk_length HL.out k hk8))
      have hps := rdTill7_set l M k
      have hj : rdJ l k = rd7 (chunk l k) := rfl
      rw [hj] at hps
      have hx14 := rd7_length (chunk l k)
      obtain ⟨x, hx⟩ : ∃ x, x = rd7 (chunk l k) := ⟨_, rfl⟩
      rw [← hx] at KR hps hx14
      have HPS := Lib.hid hps
      have HX14 := Lib.hid hx14
      have H14 := Lib.hid (flat14 (rdTill7_14 l M k))
      have HLK : Hid (k < (rdTill7 l M k).length) := Lib.hid (by rw [rdTill7_length]; exact hlt)
      have e32 : 32 * k + 32 - 32 * k = 32 := by omega
      have ee1 : (k : Int) * 32 = ((32 * k : Nat) : Int) := by push_cast; omega
      have ee2 : ((k : Int) + 1) * 32 = ((32 * k + 32 : Nat) : Int) := by push_cast; omega
      have HE32 := Lib.hid e32
      have HE1 := Lib.hid ee1
      have HE2 := Lib.hid ee2
      have hc1 : 32 * k + 32 ≤ cap := by omega
      have hgl : w.heap.size < wr.heap.size := (Array.getElem?_eq_some_iff.1 HR.out).1
      clear hx hps hj hx14 hsr hch e32 ee1 ee2
      go_wp2_with (first
        | (with_reducible refine wpList_slice_lh rfl (.tmp 19) (.tmp 21) (.tmp 24) rfl b off 256 cap rfl ((k : Int) * 32) (((k : Int) + 1) * 32) rfl rfl (32 * k) (32 * k + 32) 32 HE32.out HE1.out HE2.out (by omega) hc1 (by omega) ?_)
        | (go_at_call 180; refine KR.out.mono ?_; rintro e w3 ⟨rfl, hb3⟩
           have hr3 : w3.heap[w.heap.size]? = some (.cells ((rdTill7 l M k).flatMap iC).toArray 92 (0, 0)) := (hb3.block _ hgl).trans HR.out)
        | (with_reducible refine wpList_store_flat (f := iC) (s := 14) rfl 92 (.tmp 27) (.tmp 26) rfl infoN7 w.heap.size k (rdTill7 l M k) x 92 rfl rfl hr3 HLK.out H14.out (by rw [iC_length]; exact HX14.out) (iC_one x) ?_
           intro w4 hw4 hr4
           rw [HPS.out] at hr4))
      go_roundw
      case rel => exact ⟨k + 1, by omega, by go_num, hr4, (hbr.trans (hb3.mono hbr.size)).trans (hw4.below (Nat.le_refl _))⟩
      case measure => simp [intOf]; omega
    · have hr := HR.out
      have hkM : k = M := by omega
      rw [hkM, rdTill7_full] at hr
      have hob := NR.of_row (B := w.heap.size) (rdT_14 l M) (Nat.le_refl _) hr (by rw [rdT_length]; simp only [maxLen]; omega)
      rw [rdT_length] at hob
      have hob2 : NSl wr (.slice (some ⟨w.heap.size, 0, none⟩) M M) (rdT l 8) := by
        have := hob.sl; rw [show rdT l 8 = rdT l M by rw [HM.out]]; exact this
      have HOB : Hid (wr.heap[w.heap.size]? = some (.cells (nC (rdT l 8)).toArray 92 (0, 0))) := Lib.hid (by rw [show rdT l 8 = rdT l M by rw [HM.out]]; exact hr)
      have HBR := Lib.hid hbr
      clear hr hob
      cases hf : allF (rdT l 8)
      · have HF := Lib.hid hf
        have KE := Lib.hid (iEnc_no hob2 hf)
        clear hf hob2
        go_wp2_with (go_at_call 104; refine KE.out.mono ?_; rintro e w3 ⟨rfl, hb3⟩)
        go_ret2
        exact .inr ⟨(fun h => by have h2 := h.2.1; rw [HF.out] at h2; cases h2), rfl, hbr.trans (hb3.mono hbr.size)⟩
      · have HF := Lib.hid hf
        have KE := Lib.hid (iEnc_yes hob2 hf)
        obtain ⟨B, hB⟩ : ∃ B, decide (encT (rdT l 8) = l) = B := ⟨_, rfl⟩
        have HB := Lib.hid hB
        have KQ := Lib.hid (fun W u (h1 : BSl W u (encT (rdT l 8))) (h2 : BSl W (.slice (some ⟨b, off, none⟩) 256 cap) l) => bEqual_of h1 h2)
        rw [hB] at KQ
        clear hf hob2 hB
        cases B
        · go_wp2_with (first
            | (go_at_call 104; refine KE.out.mono ?_; rintro e w3 ⟨u3, rfl, hob3, hb3⟩
               have hb03 := hbr.trans (hb3.mono hbr.size))
            | (go_at_call 71; refine (KQ.out _ _ hob3.bsl (HS.out.below hb03)).mono ?_; rintro e w4 ⟨rfl, rfl⟩))
          go_ret2
          exact .inr ⟨(fun h => of_decide_eq_false HB.out h.2.2), rfl, hb03⟩
        · go_wp2_with (first
            | (go_at_call 104; refine KE.out.mono ?_; rintro e w3 ⟨u3, rfl, hob3, hb3⟩
               have hb03 := hbr.trans (hb3.mono hbr.size))
            | (go_at_call 71; refine (KQ.out _ _ hob3.bsl (HS.out.below hb03)).mono ?_; rintro e w4 ⟨rfl, rfl⟩))
          go_ret2
          exact .inl ⟨⟨HL.out, HF.out, of_decide_eq_true HB.out⟩, _, (by rw [HM.out]; rfl), Nat.le_refl _, (hb3.block _ (Array.getElem?_eq_some_iff.1 HOB.out).1).trans HOB.out, hb03⟩
theorem row8_sl {w : World} {g : Nat} {O : List (List Int)} (hO : Len14 O) (h8 : O.length = 8) (hr : w.heap[g]? = some (.cells (nC O).toArray 92 (0, 0))) : NSl w (.slice (some ⟨g, 0, none⟩) 8 8) O := by
  have := (NR.of_row (B := g) hO (Nat.le_refl _) hr (by rw [h8]; simp only [maxLen]; omega)).sl
  rwa [h8] at this
end Go.Proofs.YtaakepjgpnaecaaGreat
namespace Go.Proofs.YtaakepjgpnaecaaGreat
set_option maxRecDepth 100000
open Go.RowKit BM
def FsAt (w : World) (bf : Nat) (p : Value) : Prop := w.heap[bf]? = some (.cells #[p] 31 (0, 0))
theorem FsAt.low {w w' : World} {bf : Nat} {p : Value} (h : FsAt w bf p) (hb : Below w.heap.size w w') : FsAt w' bf p := below_hold h hb
theorem FsAt.cell {w : World} {bf : Nat} {p : Value} (h : FsAt w bf p) : w.cell? ⟨bf, 0, none⟩ = some p := by rw [cell_of_row _ _ _ _ _ _ h]; rfl
theorem FsAt.chg {w w' : World} {P P' : Nat → Prop} {bf : Nat} {p : Value} (h : FsAt w bf p) (hc : Chg P P' w w') (hn : ¬ P bf) : FsAt w' bf p ∧ ¬ P' bf := by
  have := hc.keep bf (Array.getElem?_eq_some_iff.1 h).1 hn
  exact ⟨this.1.trans h, this.2⟩
theorem SInv.xok {w : World} {P : Nat → Prop} {d p : Value} {X : XSt} (h : SInv w P d p X) : XOk X := by
  obtain ⟨_, _, _, _, _, _, _, _, _, _, _, _, _, hpl, _⟩ := h
  exact hpl.ok
theorem fsBlocks_of {w : World} {bf : Nat} {p : Value} (h : FsAt w bf p) : Calls Tryz.prog 105 #[.pointer (some ⟨bf, 0, none⟩)] w fun e w' => e = .returned p ∧ w = w' := by
  have hc := h.cell
  clear h
  go_enter Tryz.func105, Tryz.ntmps105
  go_wp2
  go_ret
  exact ⟨rfl, rfl⟩
theorem sGet_cur {w : World} {P : Nat → Prop} {d p : Value} {X : XSt} {E : List Int} {n : Nat} (h : SInv w P d p X) (hn : n < X.cur.length) (ho : OutJ n) (hE : X.cur.getD n [] = E) {W : World} (hb : Below w.heap.size w W) :
    Calls Tryz.prog 18 #[p, .int .i64 (n : Nat)] W fun e w' => ∃ v, e = .returned (.tuple #[v, .int .i64 0]) ∧ BSl w' v E ∧ Below W.heap.size W w' :=
  (sGet_own (h.low hb) (n := n) (by rw [← h.xok.curLen]; exact hn)).mono fun e w' ⟨v, l, a, b, c, f⟩ => ⟨v, a, by rw [← hE]; exact (c ho) ▸ b, f⟩
theorem sDec_encT {w : World} {v : Value} {L : List Int} (hs : BSl w v (encS L)) (hL : L.length = 12) (hf : frmS L = true) : Calls Tryz.prog 141 #[v] w fun e w' => e = .returned (.tuple #[supV L, .int .i64 0]) ∧ Below w.heap.size w w' := by
  obtain ⟨h1, h2⟩ := has_enc hL hf
  refine (sDec_of hs).mono fun e w' ⟨hb, ho⟩ => ⟨?_, hb⟩
  rcases ho with ⟨_, he⟩ | ⟨hn, _⟩
  · rw [he, h2]
  · exact absurd h1 hn
theorem iDec_enc {w : World} {v : Value} {O : List (List Int)} (hs : BSl w v (encT O)) (hO : Len14 O) (hf : allF O = true) : Calls Tryz.prog 142 #[v] w fun e w' => ∃ g, e = .returned (.tuple #[.slice (some ⟨g, 0, none⟩) 8 8, .int .i64 0]) ∧ w.heap.size ≤ g ∧ w'.heap[g]? = some (.cells (nC O).toArray 92 (0, 0)) ∧ Below w.heap.size w w' := by
  refine (iDec_row hs (encT_len O)).mono fun e w' ho => ?_
  rcases ho with ⟨_, g, he, hg, hr, hb⟩ | ⟨hn, _⟩
  · rw [rdT_enc hO hf] at hr
    exact ⟨g, he, hg, hr, hb⟩
  · exact absurd (has_enc7 hO hf) hn
section
variable {w : World} {P : Nat → Prop} {d p : Value} {X : XSt} {S : List Int} {N : List (List Int)} {bf : Nat}
theorem fsSuper_of (h : SInv w P d p X) (hf : FsAt w bf p) (hT : Tab X.cur S N) {W : World} (hb : Below w.heap.size w W) :
    Calls Tryz.prog 100 #[.pointer (some ⟨bf, 0, none⟩)] W fun e w' => e = .returned (.tuple #[supV S, .int .i64 0]) ∧ Below W.heap.size W w' := by
  have hin := tabAt_in hT.sf (t := 0) (by decide)
  have hle := hT.le
  have hb1 := below_box W (supO zeroS 155)
  have hr1 := heap_alloc_new W (supO zeroS 155)
  obtain ⟨w1, hw1⟩ : ∃ w1, w1 = W.alloc (supO zeroS 155) := ⟨_, rfl⟩
  rw [← hw1] at hb1 hr1
  have h1 : W.alloc (.cells #[.int .i64 0, .int .i64 0, .int .i64 0, .int .i64 0, .int .i64 0, .int .i64 0, .int .i64 0, .int .i64 0, .int .i64 0, .int .i64 0, .int .i64 0, .int .i64 0] 155) = w1 := by rw [hw1]; rfl
  have hb01 := hb.trans (hb1.mono hb.size)
  have H1 := Lib.hid h1
  have KB := Lib.hid (fsBlocks_of (hf.low hb01))
  have KG := Lib.hid (sGet_cur (n := 0) h (by omega) (.inl (by decide)) hT.g0 hb01)
  have KD := Lib.hid (fun (W : World) (v : Value) (hs : BSl W v (encS S)) => sDec_encT hs hT.s12 hT.sf)
  have h12 := hT.s12
  have HR1 : Hid (∀ V, Below w1.heap.size w1 V → V.heap[W.heap.size]? = some (supO zeroS 155)) := Lib.hid fun V hv => below_hold hr1 hv
  clear hf hT hin hle h hb hb01 h1 hw1 hr1
  go_enter Tryz.func100, Tryz.ntmps100
  go_wp2_with (first
    | (go_at_call 105; rw [H1.out]; refine KB.out.mono ?_; rintro e w' ⟨rfl, rfl⟩)
    | (go_at_call 18; refine KG.out.mono ?_; rintro e w2 ⟨v, rfl, hv, hb2⟩)
    | (go_at_call 141; refine (KD.out _ _ hv).mono ?_; rintro e w3 ⟨rfl, hb3⟩)
    | (with_reducible refine wpList_storeS rfl (.tmp 6) (.tmp 20) rfl w3.heap.size rfl S zeroS rfl h12 rfl _ (heap_alloc_new w3 _) ?_
       intro w5 hw5 hr5
       have hb5 : Below w3.heap.size w3 w5 := (below_box w3 _).trans (hw5.below (Nat.le_refl _))
       have hb15 := (hb2.trans (hb3.mono hb2.size)).trans (hb5.mono (Nat.le_trans hb2.size hb3.size))
       have hr6 := HR1.out _ hb15)
    | (with_reducible refine wpList_loadS rfl (.tmp 6) rfl w3.heap.size rfl S h12 _ hr5 ?_)
    | (with_reducible refine wpList_storeS rfl (.tmp 2) (.tmp 25) rfl W.heap.size rfl S zeroS rfl h12 rfl _ hr6 ?_; intro w7 hw7 hr7))
  exact bodyPost_ret (ret_sup2 rfl _ _ W.heap.size _ _ _ h12 rfl hr7 rfl) rfl ⟨rfl, (hb1.trans (hb15.mono hb1.size)).trans (hw7.below (Nat.le_refl _))⟩
theorem fsInodes_of (h : SInv w P d p X) (hf : FsAt w bf p) (hT : Tab X.cur S N) {t : Nat} (ht : t < 6) {W : World} (hb : Below w.heap.size w W) :
    Calls Tryz.prog 101 #[.pointer (some ⟨bf, 0, none⟩), .int .i64 (tabAt S t : Nat)] W fun e w' => ∃ g, e = .returned (.tuple #[.slice (some ⟨g, 0, none⟩) 8 8, .int .i64 0]) ∧ W.heap.size ≤ g ∧ w'.heap[g]? = some (.cells (nC (inT N t)).toArray 92 (0, 0)) ∧ Below W.heap.size W w' := by
  have hin := tabAt_in hT.sf ht
  have hle := hT.le
  obtain ⟨h14, hal⟩ := hT.n.all ht
  obtain ⟨T, hTT⟩ : ∃ T, T = inT N t := ⟨_, rfl⟩
  obtain ⟨k, hk⟩ : ∃ k, k = tabAt S t := ⟨_, rfl⟩
  have hg := hT.tb t ht
  rw [← hTT] at h14 hal hg ⊢
  rw [← hk] at hin hg ⊢
  have KB := Lib.hid (fsBlocks_of (hf.low hb))
  have KG := Lib.hid (sGet_cur (n := k) h (by omega) hin.2.2.2.2.1 hg hb)
  have KD := Lib.hid (fun (W : World) (v : Value) (hs : BSl W v (encT T)) => iDec_enc hs h14 hal)
  clear hf hT hin hle h hb hg hTT h14 hal hk
  go_enter Tryz.func101, Tryz.ntmps101
  go_wp2_with (first
    | (go_at_call 105; refine KB.out.mono ?_; rintro e w' ⟨rfl, rfl⟩)
    | (go_at_call 18; refine KG.out.mono ?_; rintro e w1 ⟨v, rfl, hv, hb1⟩)
    | (go_at_call 142; refine (KD.out _ _ hv).mono ?_; rintro e w2 ⟨g, rfl, hg1, hr, hb2⟩))
  go_ret2
  exact ⟨g, rfl, Nat.le_trans hb1.size hg1, hr, hb1.trans (hb2.mono hb1.size)⟩
end
theorem sizeFo : (Tryz.prog.info? 163).map (·.size) = some 3 := by kernel_rfl
theorem sizeIn : (Tryz.prog.info? 92).map (·.size) = some 14 := by kernel_rfl
theorem ret_ino2 {fn : Func} {p u : Tmp} (h : fn.results = #[.cell p 92, .tmp u]) (tmps : Array Value) (w : World) (g : Nat) (T : TypeId) (L : List Int) (x : Value) (hL : L.length = 14) (hp : tmps.getD p undef = .pointer (some ⟨g, 0, none⟩)) (hg : w.heap[g]? = some (iO L T)) (hx : tmps.getD u undef = x) :
    (results fn tmps).run Tryz.prog w = .ok (.tuple #[.agg (iC L).toArray, x]) w := by
  rw [results_cell_tmp h, hp, hx]
  simp only [asAddr, Sem.run_pure, Result.andThen_ok]
  rw [run_loadVar_row w g T 92 _ (0, 0) _ hg Tryz.underlying92 rfl (by rw [sizeIn]; simp [iC, hL])]
  rfl
theorem wpList_storeI {ops : Array Oper} {rest : List Oper} {o : Oper} {a : Act} {w : World} {Q : Exit → Act → World → Prop} (hgd : o.guard = none) (x y : Operand) (ho : o.op = .store 92 x y)
    (g : Nat) (hx : a.eval x = .pointer (some ⟨g, 0, none⟩)) (L M : List Int) (hy : a.eval y = .agg (iC L).toArray) (hL : L.length = 14) (hM : M.length = 14) (T : TypeId) (hg : w.heap[g]? = some (iO M T))
    (h : ∀ w', Wrote w w' g → w'.heap[g]? = some (iO L T) → wpList Tryz.prog ops Q rest (a.put o.dst undef) w') : wpList Tryz.prog ops Q (o :: rest) a w :=
  wpList_store_row hgd 92 x y ho g _ hx hy T _ hg (by rw [sizeIn]; simp [iC, hL]) (by simp [iC, hL, hM]) (ints_one L) (h _ (Wrote.setRow _ _ _) (setRow_heap _ _ _ _ _ _ hg))
section
variable {w : World} {P : Nat → Prop} {d p : Value} {X : XSt} {S : List Int} {N : List (List Int)} {bf : Nat}
theorem fsFind_no {n : Int} (hn : n < 1 ∨ 47 < n) (f : Value) (W : World) : Calls Tryz.prog 103 #[f, .int .i64 n] W fun e w' => e = .returned (.tuple #[.agg #[.int .i64 0, .slice none 0 0, .int .i64 0], .int .i64 1]) ∧ Below W.heap.size W w' := by
  have hb1 := below_box W (.cells #[.int .i64 0, .slice none 0 0, .int .i64 0] 163)
  have hr1 := heap_alloc_new W (.cells #[.int .i64 0, .slice none 0 0, .int .i64 0] 163)
  obtain ⟨w1, hw1⟩ : ∃ w1, w1 = W.alloc (.cells #[.int .i64 0, .slice none 0 0, .int .i64 0] 163) := ⟨_, rfl⟩
  rw [← hw1] at hb1 hr1
  have H1 := Lib.hid hw1.symm
  have HR1 := Lib.hid hr1
  have KP := Lib.hid (iPlace_no n hn)
  clear hn hw1 hr1
  go_enter Tryz.func103, Tryz.ntmps103
  go_upto_region 2 with (go_at_call 146; rw [H1.out]; refine (KP.out _).mono ?_; rintro e w' ⟨rfl, rfl⟩)
  have hr2 := HR1.out
  go_wp2_with (with_reducible refine wpList_store_t3 rfl 163 sizeFo (.tmp 4) (.tmp 18) rfl W.heap.size rfl _ _ _ _ _ _ rfl rfl rfl rfl _ hr2 ?_; intro w9 hw9 hr9)
  refine bodyPost_ret (ret_cell_t3 rfl Tryz.underlying163 sizeFo _ _ W.heap.size _ _ _ _ _ rfl hr9 rfl) rfl ⟨rfl, hb1.trans (hw9.below (Nat.le_refl _))⟩
theorem fsFind_yes (h : SInv w P d p X) (hf : FsAt w bf p) (hT : Tab X.cur S N) {n : Nat} (h0 : 1 ≤ n) (h48 : n < 48) {W : World} (hb : Below w.heap.size w W) :
    Calls Tryz.prog 103 #[.pointer (some ⟨bf, 0, none⟩), .int .i64 n] W fun e w' => ∃ g, e = .returned (.tuple #[.agg #[.int .i64 (tabAt S (n / 8) : Nat), .slice (some ⟨g, 0, none⟩) 8 8, .int .i64 (n % 8 : Nat)], .int .i64 0]) ∧ W.heap.size ≤ g ∧
      w'.heap[g]? = some (.cells (nC (inT N (n / 8))).toArray 92 (0, 0)) ∧ Below W.heap.size W w' := by
  have ht : n / 8 < 6 := by omega
  have hj : n % 8 < 8 := by omega
  have e1 : (n : Int) / 8 = ((n / 8 : Nat) : Int) := by omega
  have e2 : (n : Int) % 8 = ((n % 8 : Nat) : Int) := by omega
  have KP := Lib.hid (iPlace_yes (n : Int) (by omega) (by omega))
  rw [e1, e2] at KP
  clear e1 e2
  obtain ⟨t, htt⟩ : ∃ t, t = n / 8 := ⟨_, rfl⟩
  obtain ⟨j, hjj⟩ : ∃ j, j = n % 8 := ⟨_, rfl⟩
  rw [← htt] at KP ht ⊢
  rw [← hjj] at KP hj ⊢
  clear htt hjj h0 h48
  have hb1 := below_box W (.cells #[.int .i64 0, .slice none 0 0, .int .i64 0] 163)
  have hr1 := heap_alloc_new W (.cells #[.int .i64 0, .slice none 0 0, .int .i64 0] 163)
  obtain ⟨w1, hw1⟩ : ∃ w1, w1 = W.alloc (.cells #[.int .i64 0, .slice none 0 0, .int .i64 0] 163) := ⟨_, rfl⟩
  rw [← hw1] at hb1 hr1
  have H1 := Lib.hid hw1.symm
  have hb01 := hb.trans (hb1.mono hb.size)
  have HR1 : Hid (∀ V, Below w1.heap.size w1 V → V.heap[W.heap.size]? = some (.cells #[.int .i64 0, .slice none 0 0, .int .i64 0] 163 (0, 0))) := Lib.hid fun V hv => below_hold hr1 hv
  have KS := Lib.hid (fsSuper_of h hf hT hb01)
  have HBW := Lib.hid hb01
  have KI := Lib.hid (fun (V : World) (hv : Below w.heap.size w V) => fsInodes_of h hf hT ht hv)
  have h12 := hT.s12
  have hin := (tabAt_in hT.sf ht).1
  obtain ⟨A, hA⟩ : ∃ A, A = tabAt S t := ⟨_, rfl⟩
  obtain ⟨T, hTT⟩ : ∃ T, T = inT N t := ⟨_, rfl⟩
  rw [← hA] at KI hin ⊢
  rw [← hTT] at KI ⊢
  have et : (t : Int) < 6 := by omega
  have et0 : ¬ (t : Int) < 0 := by omega
  have HSC : Hid (∀ (V V' : World), V.heap.size < V'.heap.size → V'.heap[V.heap.size]? = some (supO S 155) → V'.cell? ⟨V.heap.size, 6 + t, none⟩ = some (.int .i64 A)) := Lib.hid fun V V' _ hr => by
    rw [sup_cell hr (6 + t) (by omega), hin]
  clear h hf hT hb hb01 hw1 hr1 hA hTT hin ht
  go_enter Tryz.func103, Tryz.ntmps103
  go_wp2_with (first
    | (go_at_call 146; rw [H1.out]; refine (KP.out _).mono ?_; rintro e w' ⟨rfl, rfl⟩)
    | (go_at_call 100; refine KS.out.mono ?_; rintro e w2 ⟨rfl, hb2⟩)
    | (with_reducible refine wpList_storeS rfl (.tmp 8) (.tmp 22) rfl w2.heap.size rfl S zeroS rfl h12 rfl _ (heap_alloc_new w2 _) ?_
       intro w3 hw3 hr3
       have hb3 : Below w2.heap.size w2 w3 := (below_box w2 _).trans (hw3.below (Nat.le_refl _))
       have hl3 := (Array.getElem?_eq_some_iff.1 hr3).1
       have hb13 := hb2.trans (hb3.mono hb2.size)
       have c3 := HSC.out _ _ hl3 hr3)
    | (go_at_call 101; refine (KI.out _ (HBW.out.trans (hb13.mono HBW.out.size))).mono ?_; rintro e w4 ⟨g, rfl, hg4, hr4, hb4⟩
       have hb14 := hb13.trans (hb4.mono hb13.size)
       have hr6 := HR1.out _ hb14
       have c4 := HSC.out _ _ (Nat.lt_of_lt_of_le hl3 hb4.size) ((hb4.block _ hl3).trans hr3))
    | (with_reducible refine wpList_store_t3 rfl 163 sizeFo (.tmp 4) (.tmp 47) rfl W.heap.size rfl _ _ _ _ _ _ rfl rfl rfl rfl _ hr6 ?_; intro w9 hw9 hr9))
  have hne : g ≠ W.heap.size := by
    have := hb1.size
    have := hb13.size
    have := (Array.getElem?_eq_some_iff.1 (HR1.out w1 (Below.refl _ _))).1
    omega
  refine bodyPost_ret (ret_cell_t3 rfl Tryz.underlying163 sizeFo _ _ W.heap.size _ _ _ _ _ rfl hr9 rfl) rfl ⟨g, rfl, ?_, (hw9.2.2.2.2 g hne).trans hr4, (hb1.trans (hb14.mono hb1.size)).trans (hw9.below (Nat.le_refl _))⟩
  have := hb1.size
  have := hb13.size
  omega
theorem fsGet_yes (h : SInv w P d p X) (hf : FsAt w bf p) (hT : Tab X.cur S N) {n : Nat} (h0 : 1 ≤ n) (h48 : n < 48) {W : World} (hb : Below w.heap.size w W) :
    Calls Tryz.prog 116 #[.pointer (some ⟨bf, 0, none⟩), .int .i64 n] W fun e w' => e = .returned (.tuple #[.agg (iC (N.getD n [])).toArray, .int .i64 0]) ∧ Below W.heap.size W w' := by
  have ht : n / 8 < 6 := by omega
  have hj : n % 8 < 8 := by omega
  have hb1 := below_box W (iO zeroI 92)
  have hr1 := heap_alloc_new W (iO zeroI 92)
  obtain ⟨w1, hw1⟩ : ∃ w1, w1 = W.alloc (iO zeroI 92) := ⟨_, rfl⟩
  rw [← hw1] at hb1 hr1
  have h1 : W.alloc (.cells #[.int .i64 0, .int .i64 0, .int .i64 0, .int .i64 0, .int .i64 0, .int .i64 0, .int .i64 0, .int .i64 0, .int .i64 0, .int .i64 0, .int .i64 0, .int .i64 0, .int .i64 0, .int .i64 0] 92) = w1 := by rw [hw1]; rfl
  have hb01 := hb.trans (hb1.mono hb.size)
  have H1 := Lib.hid h1
  have HR1 : Hid (∀ V, Below w1.heap.size w1 V → V.heap[W.heap.size]? = some (iO zeroI 92)) := Lib.hid fun V hv => below_hold hr1 hv
  have KF := Lib.hid (fsFind_yes h hf hT h0 h48 hb01)
  obtain ⟨A, hA⟩ : ∃ A, A = tabAt S (n / 8) := ⟨_, rfl⟩
  obtain ⟨T, hTT⟩ : ∃ T, T = inT N (n / 8) := ⟨_, rfl⟩
  have hx : (inT N (n / 8)).getD (n % 8) [] = N.getD n [] := by rw [inT_getD N _ hj]; congr 1; omega
  have hx14 := hT.n.get h48
  have h14 := inT_14 hT.n.l14 (n / 8)
  have hl8 := inT_length hT.n.len ht
  rw [← hA, ← hTT] at KF
  rw [← hTT] at hx h14 hl8
  obtain ⟨x, hxx⟩ : ∃ x, x = N.getD n [] := ⟨_, rfl⟩
  rw [← hxx] at hx hx14 ⊢
  obtain ⟨j, hjj⟩ : ∃ j, j = n % 8 := ⟨_, rfl⟩
  rw [← hjj] at KF hj hx
  have HRG : Hid (∀ (V : World) (g : Nat), V.heap[g]? = some (.cells (nC T).toArray 92 (0, 0)) → V.rangeAt g (j * 14) (iC x)) := Lib.hid fun V g hr => by
    have := flat_range (f := iC) (s := 14) (k := j) hr (fun y hy => by rw [iC_length]; exact h14 y hy) (by omega)
    rw [← hx, List.getD_eq_getElem?_getD, List.getElem?_eq_getElem (by omega)]
    exact this
  have HX14 := Lib.hid hx14
  have ej : (j : Int) < 8 := by omega
  have u1 := Tryz.underlying92
  clear h hf hT hb hb01 h1 hw1 hr1 hA hTT hx h14 hl8 hxx hjj ht hx14
  go_enter Tryz.func116, Tryz.ntmps116
  go_wp2_with (first
    | (go_at_call 103; rw [H1.out]; refine KF.out.mono ?_; rintro e w2 ⟨g, rfl, hg2, hr2, hb2⟩
       have hb23 := below_box w2 (.cells #[.int .i64 A, .slice (some ⟨g, 0, none⟩) 8 8, .int .i64 j] 163)
       have hb3 := hb2.trans (hb23.mono hb2.size)
       have hr3 := HR1.out _ hb3
       have hrg := HRG.out _ g (below_hold hr2 hb23))
    | (with_reducible refine wpList_load_nums rfl 92 (.tmp 22) rfl g (j * 14) rfl x _ hrg u1 rfl (by rw [sizeIn, HX14.out]) ?_)
    | (with_reducible refine wpList_storeI rfl (.tmp 4) (.tmp 23) rfl W.heap.size rfl x zeroI rfl HX14.out rfl _ hr3 ?_; intro w9 hw9 hr9))
  refine bodyPost_ret (ret_ino2 rfl _ _ W.heap.size _ _ _ HX14.out rfl hr9 rfl) rfl ⟨rfl, (hb1.trans (hb3.mono hb1.size)).trans (hw9.below (Nat.le_refl _))⟩
end
section
variable {w : World} {P : Nat → Prop} {d p : Value} {X : XSt} {O : List (Int × Int)} {k : Nat}
theorem spUsed_yes (h : SInv w P d p X) (hH : Has X.cur O k) (hO : OOk O k) {m : Nat} (hm1 : 1 ≤ m) (hm : m ≤ k) :
    Calls Tryz.prog 8 #[p, .int .i64 (64 * (m : Int))] w fun e w' => e = .returned (.tuple #[.int .i64 (cntU O (64 * m)), .int .i64 0]) ∧ Below w.heap.size w w' := by
  have h12 := hO.k12
  have KU := Lib.hid (spUB_yes h hH hO hm1 hm)
  have KO := Lib.hid (fun (W : World) => gOpen_yes m hm1 (by omega) W)
  obtain ⟨R, hR⟩ : ∃ R, R = usedK O (64 * m) := ⟨_, rfl⟩
  have hc := count_used hO (64 * m) (by omega)
  rw [← hR] at hc KU
  have h1 := cnt_all (64 * m)
  have h2 := cntO_mul m hm1 (by omega)
  have KC : Hid (∀ W q r, BRow W q r R → Calls Tryz.prog 26 #[.pointer (some ⟨q, 0, none⟩)] W fun e w' => e = .returned (.int .i64 (countB R)) ∧ ∃ m, w' = W.drewN m) := Lib.hid fun W q r hb => bCount_any hb
  have hcl := countB_le R
  have hRl : R.length = 64 * m := by rw [hR, usedK_length]
  obtain ⟨C, hC⟩ : ∃ C, C = countB R := ⟨_, rfl⟩
  rw [← hC] at KC hc hcl
  obtain ⟨U, hU⟩ : ∃ U, U = cntU O (64 * m) := ⟨_, rfl⟩
  have HE : Hid ((C : Int) - (64 * (m : Int) - (62 * (m : Int) - 42)) = U) := Lib.hid (by omega)
  have hC2 : (C : Int) ≤ 768 := by omega
  have hm12 : (m : Int) ≤ 12 := by omega
  have hm11 : (1 : Int) ≤ m := by omega
  rw [← hU]
  clear hR hc h1 h2 hcl hRl hC hU h hH hO hm hm1 h12
  go_enter Tryz.func8, Tryz.ntmps8
  go_wp2_with (first
    | (go_at_call 24; refine KU.out.mono ?_; rintro e w1 ⟨q, r, rfl, hrow, hb1⟩)
    | (go_at_call 25; refine (KO.out _).mono ?_; rintro e w' ⟨rfl, rfl⟩)
    | (go_at_call 26; refine (KC.out _ _ _ hrow).mono ?_; rintro e w2 ⟨rfl, n, rfl⟩))
  go_ret2
  exact ⟨by first | rfl | (rw [HE.out]; rfl), below_drewN' hb1 _⟩
theorem spFind_yes (h : SInv w P d p X) (hH : Has X.cur O k) (hO : OOk O k) {m : Nat} (hm1 : 1 ≤ m) (hm : m ≤ k) (g : Int) :
    Calls Tryz.prog 155 #[p, .int .i64 (64 * (m : Int)), .int .i64 g] w fun e w' => e = .returned (.tuple #[.int .i64 (findS O (64 * m) (goalS (64 * m) g)), .int .i64 0]) ∧ Below w.heap.size w w' := by
  have KU := Lib.hid (spUB_yes h hH hO hm1 hm)
  rw [← find_is (show 0 < 64 * m by omega)]
  obtain ⟨R, hR⟩ : ∃ R, R = usedK O (64 * m) := ⟨_, rfl⟩
  rw [← hR] at KU ⊢
  have KC : Hid (∀ W q r, BRow W q r R → Calls Tryz.prog 183 #[.pointer (some ⟨q, 0, none⟩), .int .i64 g] W fun e w' => e = .returned (.int .i64 (firstS R g)) ∧ ∃ m, w' = W.drewN m) := Lib.hid fun W q r hb => bFirst_any hb g
  clear hR h hH hO hm hm1
  go_enter Tryz.func155, Tryz.ntmps155
  go_wp2_with (first
    | (go_at_call 24; refine KU.out.mono ?_; rintro e w1 ⟨q, r, rfl, hrow, hb1⟩)
    | (go_at_call 183; refine (KC.out _ _ _ hrow).mono ?_; rintro e w2 ⟨rfl, n, rfl⟩))
  go_ret2
  exact ⟨rfl, below_drewN' hb1 _⟩
theorem sizeOw : (Tryz.prog.info? 36).map (·.size) = some 2 := by kernel_rfl
theorem spOwner_yes (h : SInv w P d p X) (hH : Has X.cur O k) (hO : OOk O k) {n : Nat} (hn : n < 64 * k) :
    Calls Tryz.prog 10 #[p, .int .i64 n] w fun e w' => e = .returned (.tuple #[.agg #[.int .u16 (O.getD n (0, 0)).1, .int .u16 (O.getD n (0, 0)).2], .int .i64 0]) ∧ Below w.heap.size w w' := by
  have h12 := hO.k12
  obtain ⟨g, hg⟩ : ∃ g, g = n / 64 := ⟨_, rfl⟩
  obtain ⟨j, hj⟩ : ∃ j, j = n % 64 := ⟨_, rfl⟩
  have hgk : g < k := by omega
  have hj64 : j < 64 := by omega
  have hnj : n = 64 * g + j := by omega
  have KP := Lib.hid (spPoss_is (n : Int) true (decide_eq_true (by omega)))
  have KG := Lib.hid (fun (W : World) => gGroup_any (n : Int) (by omega) W)
  have eg : grpI (n : Int) = g := by unfold grpI; rw [if_neg (by omega)]; omega
  rw [eg] at KG
  have hb1 := below_box w (.cells #[.int .u16 0, .int .u16 0] 36)
  have hr1 := heap_alloc_new w (.cells #[.int .u16 0, .int .u16 0] 36)
  obtain ⟨W1, hW1⟩ : ∃ W1, W1 = w.alloc (.cells #[.int .u16 0, .int .u16 0] 36) := ⟨_, rfl⟩
  rw [← hW1] at hb1 hr1
  have KR := Lib.hid (spRead_at (h.low hb1) hH hO hgk)
  have hz1 : w.heap.size < W1.heap.size := by rw [hW1]; simp
  have e1 := grO_getD O g hj64
  rw [← hnj] at e1
  have KR2 : Hid (Calls Tryz.prog 28 #[p, .int .i64 g] W1 fun e w' => ∃ b cap, e = .returned (.tuple #[.slice (some ⟨b, 0, none⟩) 64 cap, .int .i64 0]) ∧ b < w'.heap.size ∧
      w'.cell? ⟨b, j * 2, none⟩ = some (.int .u16 (O.getD n (0, 0)).1) ∧ w'.cell? ⟨b, j * 2 + 1, none⟩ = some (.int .u16 (O.getD n (0, 0)).2) ∧ Below W1.heap.size W1 w') := Lib.hid (KR.out.mono fun e w' ⟨b, cap, h1, h2, h3, _, h4, h5⟩ => ⟨b, cap, h1, h3, by rw [← e1]; exact (h4 j hj64).1, by rw [← e1]; exact (h4 j hj64).2, h5⟩)
  obtain ⟨x, hx⟩ : ∃ x, x = (O.getD n (0, 0)).1 := ⟨_, rfl⟩
  obtain ⟨y, hy⟩ : ∃ y, y = (O.getD n (0, 0)).2 := ⟨_, rfl⟩
  rw [← hx, ← hy] at KR2 ⊢
  have H1 := Lib.hid hW1.symm
  have HR1 := Lib.hid hr1
  have HB1 := Lib.hid hb1
  have hrem : (n : Int).tmod 64 = j := by rw [Int.tmod_eq_emod_of_nonneg (by omega)]; omega
  have ej : (j : Int) < 64 := by omega
  have HM : Hid (w.heap.size < W1.heap.size) := Lib.hid hz1
  clear h hH hO hn h12 hg hj hgk hnj eg KR e1 hx hy hW1 hr1 hb1 hz1
  go_enter Tryz.func10, Tryz.ntmps10
  go_wp2_with (first
    | (go_at_call 27; refine (KP.out _).mono ?_; rintro e w' ⟨rfl, rfl⟩)
    | (go_at_call 29; refine (KG.out _).mono ?_; rintro e w' ⟨rfl, rfl⟩)
    | (go_at_call 28; rw [H1.out]; refine KR2.out.mono ?_; rintro e w2 ⟨b, cap, rfl, hbl, c1, c2, hb2⟩; have hr2 := below_hold HR1.out hb2)
    | (with_reducible refine wpList_store2 rfl 36 sizeOw (.tmp 4) (.tmp 27) rfl w.heap.size rfl _ _ _ _ rfl rfl rfl _ hr2 ?_; intro w5 hw5 hr5))
  refine bodyPost_ret (ret_cell2 rfl Tryz.underlying36 sizeOw _ _ w.heap.size _ _ _ _ rfl hr5 rfl) rfl ⟨rfl, (HB1.out.trans (hb2.mono (Nat.le_of_lt HM.out))).trans (hw5.below (Nat.le_refl _))⟩
end
end Go.Proofs.YtaakepjgpnaecaaGreat
namespace Go.Proofs.YtaakepjgpnaecaaGreat
set_option maxRecDepth 100000
open Go.RowKit Go.Maps
theorem grown_cellS {w w' : World} {m b o : Nat} (h : w.grownBy w' (some m)) (hb : b < w.heap.size) (hne : b ≠ m) : w'.cell? ⟨b, o, none⟩ = w.cell? ⟨b, o, none⟩ := by
  apply World.cell?_of_block
  exact h.block b hb fun e => hne (Option.some.inj e)
theorem addS_mem {N : List Int} {n y : Int} : y ∈ addS N n ↔ y ∈ N ∨ y = n := by
  unfold addS
  split
  · exact ⟨.inl, fun h => h.elim id fun e => by rw [e]; assumption⟩
  · simp
section
variable {w : World} {P : Nat → Prop} {d p : Value} {X : XSt}
theorem sPut_mem {Pd : Nat → Prop} {b be bp : Nat} {q : Int} {ek : List Int} {eg : Int → Value} {ev : Int → List Int} {pk : List Int} {pg : Int → Value} {pv : Int → List Int} {ds : DS} (h : SMem w Pd b be bp d q ek eg ev pk pg pv true ds)
    {n : Int} {v : Value} {l : List Int} (hv : BSl w v l) (hl : l.length = 256) (hn : 0 ≤ n ∧ n < ds.F.length) (h768 : ds.F.length ≤ 768) (hpl : pk.length ≤ 37) (hroom : n ∈ pk ∨ pk.length < 37) :
    Calls Tryz.prog 16 #[.pointer (some ⟨b, 0, none⟩), .int .i64 n, v] w fun e w' => e = .returned (.int .i64 0) ∧ ∃ u, SMem w' Pd b be bp d q ek eg ev (addS pk n) (fun y => if y = n then u else pg y) (fun y => if y = n then l else pv y) true ds ∧
      (∀ g, u.ownBlock = some g → w.heap.size ≤ g ∧ g < w'.heap.size) ∧ w.heap.size ≤ w'.heap.size ∧ Ext (fun k => k = bp) w w' := by
  have hwf : (Lit.int .i64 n).wf = true := i64wf (by omega)
  have KA := Lib.hid (sAllows_is h true)
  have KH := Lib.hid (sHas_is h n)
  rw [decide_eq_true hn] at KH
  have KL := Lib.hid (sLoggable_is w n)
  rw [decide_eq_true (by omega)] at KL
  have c3 := h.c3
  have hlo := h.mp.look_ok hwf
  have hlen := fun ty => h.mp.len ty
  have KC := Lib.hid (fun W (hb : Below w.heap.size w W) => bClone_of (hv.below hb) (by rw [hl]; decide))
  have HB := Lib.hid (fun W (hb : Below w.heap.size w W) => h.below hb)
  have HW := Lib.hid hwf
  have HP := Lib.hid hpl
  have HLL := Lib.hid hl
  obtain ⟨ao, cap, rfl, _⟩ := hv.shape
  rw [hl] at KC ⊢
  have HBL := Lib.hid h.bl
  have HN : Hid (b < w.heap.size ∧ b ≠ bp) := Lib.hid ⟨h.bl, fun e => h.nb.2 e.symm⟩
  refine Calls.mono (R := fun e w' => e = .returned (.int .i64 0) ∧ ∃ u w3, OB w3 w.heap.size u l ∧ Below w.heap.size w w3 ∧ Mp w' bp (addS pk n) (fun y => if y = n then u else pg y) ∧ w3.grownBy w' (some bp) ∧ w'.heap.size = w3.heap.size) ?_ ?_
  · obtain ⟨uu, huu⟩ : ∃ uu, uu = (if n ∈ pk then pg n else .slice none 0 0) := ⟨_, rfl⟩
    rw [← huu] at hlo
    obtain ⟨m, hm⟩ : ∃ m, m = pk.length := ⟨_, rfl⟩
    rw [← hm] at hlen HP hroom
    have HM := Lib.hid hm
    by_cases hin : n ∈ pk
    · rw [decide_eq_true hin] at hlo
      clear h hv hn h768 hroom hpl hwf huu hin hl hm
      go_enter Tryz.func16, Tryz.ntmps16
      go_wp2_with (first
        | (go_at_call 35; (with_reducible refine KA.out.mono ?_); rintro e w' ⟨rfl, rfl⟩)
        | (go_at_call 42; (with_reducible refine KH.out.mono ?_); rintro e w' ⟨rfl, rfl⟩)
        | (go_at_call 43; (with_reducible refine KL.out.mono ?_); rintro e w' ⟨rfl, rfl⟩))
      have KC1 := Lib.hid (KC.out w.drew (below_drewN' (Below.refl _ _) 1))
      have d3 : w.drew.cell? ⟨b, 3, none⟩ = some (.map (some bp)) := c3
      go_region_held3 (fun W => W.cell? ⟨b, 3, none⟩ = some (.map (some bp))) (first | exact f3 | exact e3 | exact d3) (first
        | (go_at_call 44; (with_reducible refine KC1.out.mono ?_); rintro e w3 ⟨u, rfl, hob, hbe⟩
           have e3 := (hbe.cell (p := ⟨b, 3, none⟩) HBL.out).trans c3
           have HOB := Lib.hid hob
           have HBE := Lib.hid (show Below w.heap.size w w3 from (below_drewN' (Below.refl _ _) 1).trans hbe)
           obtain ⟨dd, hdd⟩ := Blo.hdr (v := u) ⟨hob.more (Nat.zero_le _), HLL.out⟩
           obtain ⟨w4, hrun4, hm4, hg4, hs4⟩ := (HB.out _ HBE.out).mp.store HW.out hdd (by have := HP.out; have := HM.out; omega)
           have f3 : w4.cell? ⟨b, 3, none⟩ = some (.map (some bp)) := (grown_cellS hg4 (Nat.lt_of_lt_of_le HBL.out HBE.out.size) HN.out.2).trans e3
           have HM4 := Lib.hid hm4
           have HG4 := Lib.hid hg4
           have HS4 := Lib.hid hs4
           clear hob hbe hdd hm4 hg4 hs4))
      go_wp2
      go_ret
      exact ⟨rfl, u, w3, HOB.out, HBE.out, HM4.out, HG4.out, HS4.out⟩
    · have hm37 : (m : Int) < 37 := by have := hroom.resolve_left hin; omega
      rw [decide_eq_false hin] at hlo
      clear h hv hn h768 hroom hpl hwf huu hin hl hm
      go_enter Tryz.func16, Tryz.ntmps16
      go_wp2_with (first
        | (go_at_call 35; (with_reducible refine KA.out.mono ?_); rintro e w' ⟨rfl, rfl⟩)
        | (go_at_call 42; (with_reducible refine KH.out.mono ?_); rintro e w' ⟨rfl, rfl⟩)
        | (go_at_call 43; (with_reducible refine KL.out.mono ?_); rintro e w' ⟨rfl, rfl⟩))
      have KC1 := Lib.hid (KC.out w.drew (below_drewN' (Below.refl _ _) 1))
      have d3 : w.drew.cell? ⟨b, 3, none⟩ = some (.map (some bp)) := c3
      go_region_held3 (fun W => W.cell? ⟨b, 3, none⟩ = some (.map (some bp))) (first | exact f3 | exact e3 | exact d3) (first
        | (go_at_call 44; (with_reducible refine KC1.out.mono ?_); rintro e w3 ⟨u, rfl, hob, hbe⟩
           have e3 := (hbe.cell (p := ⟨b, 3, none⟩) HBL.out).trans c3
           have HOB := Lib.hid hob
           have HBE := Lib.hid (show Below w.heap.size w w3 from (below_drewN' (Below.refl _ _) 1).trans hbe)
           obtain ⟨dd, hdd⟩ := Blo.hdr (v := u) ⟨hob.more (Nat.zero_le _), HLL.out⟩
           obtain ⟨w4, hrun4, hm4, hg4, hs4⟩ := (HB.out _ HBE.out).mp.store HW.out hdd (by have := HP.out; have := HM.out; omega)
           have f3 : w4.cell? ⟨b, 3, none⟩ = some (.map (some bp)) := (grown_cellS hg4 (Nat.lt_of_lt_of_le HBL.out HBE.out.size) HN.out.2).trans e3
           have HM4 := Lib.hid hm4
           have HG4 := Lib.hid hg4
           have HS4 := Lib.hid hs4
           clear hob hbe hdd hm4 hg4 hs4))
      go_wp2
      go_ret
      exact ⟨rfl, u, w3, HOB.out, HBE.out, HM4.out, HG4.out, HS4.out⟩
  · rintro e w' ⟨rfl, u, w3, hob, hbe, hmp, hgr, hsz⟩
    have h3 := HB.out w3 hbe
    have hblo : Blo w3 u l := ⟨hob.more (Nat.zero_le _), HLL.out⟩
    have hk : ∀ k, k < w3.heap.size → k ≠ bp → w'.heap[k]? = w3.heap[k]? := fun k hk hn => hgr.block k hk fun e => hn (Option.some.inj e)
    have hext : Ext (fun k => k = bp) w w' := (Ext.of_below hbe).trans (P2 := fun k => k = bp) (Ext.of_grown hgr rfl) fun x _ e => e
    refine ⟨rfl, u, ⟨?_, ?_, h3.q0, ?_, hmp, h3.ne, ?_, ?_⟩, ?_, hext.size, hext⟩
    · rw [hk b h3.bl fun e => h3.nb.2 e.symm]; exact h3.hb
    · exact h3.dk.same fun k hp => hk k (h3.dk.lt k hp) fun e => Mp.nd h3.dk h3.mp (e ▸ hp)
    · exact h3.me.keep (hk be h3.me.lt h3.ne)
    · exact fun x hx => (h3.re x hx).keep fun g hg => hk g ((h3.re x hx).lt hg) ((h3.re x hx).nm hg h3.mp)
    · intro x hx
      by_cases e : x = n
      · rw [if_pos e, if_pos e]
        exact hblo.keep fun g hg => hk g (hblo.lt hg) (hblo.nm hg h3.mp)
      · rw [if_neg e, if_neg e]
        have hx' := (addS_mem.1 hx).resolve_right e
        exact (h3.rp x hx').keep fun g hg => hk g ((h3.rp x hx').lt hg) ((h3.rp x hx').nm hg h3.mp)
    · intro g hg
      have := World.ownsRow.lt hob.2 g hg
      exact ⟨this.1, by rw [hsz]; exact this.2⟩
theorem sPut_of (h : SInv w P d p X) {n : Int} {v : Value} {l : List Int} (hv : BSl w v l) (hn : -9223372036854775808 ≤ n ∧ n ≤ 9223372036854775807) (hj : OutJ n.toNat) : Calls Tryz.prog 16 #[p, .int .i64 n, v] w (XOut SInv w P d p (xPut X n l)) := by
  have h' := h
  obtain ⟨b, be, bp, Pd, q, ek, eg, ev, pk, pg, pv, rfl, hm, hpl, ho, hlt⟩ := h
  have hFl := hpl.ok.lst.1
  have h768 := hpl.n64.2
  have hwf : (Lit.int .i64 n).wf = true := i64wf hn
  have same : ∀ z : Int, Calls Tryz.prog 16 #[.pointer (some ⟨b, 0, none⟩), .int .i64 n, v] w (fun e w' => e = .returned (.int .i64 z) ∧ w = w') → Calls Tryz.prog 16 #[.pointer (some ⟨b, 0, none⟩), .int .i64 n, v] w (XOut SInv w P d (.pointer (some ⟨b, 0, none⟩)) (z, X)) := fun z h => h.mono fun e w' ⟨he, hw⟩ => by
    subst hw
    exact ⟨he, P, h', Chg.refl _ _⟩
  have KA := Lib.hid (sAllows_is hm true)
  have KH := Lib.hid (sHas_is hm n)
  have KL := Lib.hid (sLoggable_is w n)
  obtain ⟨ao, cap, hvv, _⟩ := hv.shape
  unfold xPut
  cases hw : X.wi
  · rw [if_pos rfl]
    refine same 17 ?_
    rw [hw] at KA
    clear h' hm hpl ho hlt hFl h768 same hv hj hn KH KL hwf
    go_enter Tryz.func16, Tryz.ntmps16
    go_wp2_with (go_at_call 35; (with_reducible refine KA.out.mono ?_); rintro e w' ⟨rfl, rfl⟩)
    go_ret
    exact ⟨rfl, rfl⟩
  · rw [if_neg (by decide)]
    rw [hw] at KA hm
    obtain ⟨hput, hcl, hcv⟩ := hpl.wi1 hw
    by_cases ha : n < 0 ∨ (X.is.length : Int) ≤ n ∨ l.length ≠ 256
    · rw [if_pos ha]
      refine same 1 ?_
      by_cases hr : 0 ≤ n ∧ n < X.ds.F.length
      · rw [decide_eq_true hr] at KH
        rw [decide_eq_true (by omega)] at KL
        have hl : ¬ (l.length : Int) = 256 := by omega
        obtain ⟨L, hL⟩ : ∃ L, L = l.length := ⟨_, rfl⟩
        rw [← hL] at hvv hl
        subst hvv
        clear h' hm hpl ho hlt hFl h768 same hv hj hn hwf hput hcl hcv ha hr hL
        go_enter Tryz.func16, Tryz.ntmps16
        go_wp2_with (first
          | (go_at_call 35; (with_reducible refine KA.out.mono ?_); rintro e w' ⟨rfl, rfl⟩)
          | (go_at_call 42; (with_reducible refine KH.out.mono ?_); rintro e w' ⟨rfl, rfl⟩)
          | (go_at_call 43; (with_reducible refine KL.out.mono ?_); rintro e w' ⟨rfl, rfl⟩))
        go_ret
        exact ⟨rfl, rfl⟩
      · rw [decide_eq_false hr] at KH
        clear h' hm hpl ho hlt hFl h768 same hv hj hn hwf hput hcl hcv ha hr KL
        go_enter Tryz.func16, Tryz.ntmps16
        go_wp2_with (first
          | (go_at_call 35; (with_reducible refine KA.out.mono ?_); rintro e w' ⟨rfl, rfl⟩)
          | (go_at_call 42; (with_reducible refine KH.out.mono ?_); rintro e w' ⟨rfl, rfl⟩))
        go_ret
        exact ⟨rfl, rfl⟩
    · rw [if_neg ha]
      have hr : 0 ≤ n ∧ n < X.ds.F.length := by omega
      have hl : l.length = 256 := by omega
      by_cases hf : n ∉ X.put ∧ 37 ≤ X.put.length
      · rw [if_pos hf]
        refine same 13 ?_
        rw [hput] at hf
        rw [decide_eq_true hr] at KH
        rw [decide_eq_true (by omega)] at KL
        have c3 := hm.c3
        have hlo := hm.mp.look_ok hwf
        have hlen := fun ty => hm.mp.len ty
        rw [if_neg hf.1, decide_eq_false hf.1] at hlo
        have hm37 : 37 ≤ (pk.length : Int) := by omega
        obtain ⟨m, hmm⟩ : ∃ m, m = pk.length := ⟨_, rfl⟩
        rw [← hmm] at hlen hm37
        rw [hl] at hvv
        subst hvv
        clear h' hm hpl ho hlt hFl h768 same hv hj hn hwf hput hcl hcv ha hr hf hl hmm
        go_enter Tryz.func16, Tryz.ntmps16
        go_wp2_with (first
          | (go_at_call 35; (with_reducible refine KA.out.mono ?_); rintro e w' ⟨rfl, rfl⟩)
          | (go_at_call 42; (with_reducible refine KH.out.mono ?_); rintro e w' ⟨rfl, rfl⟩)
          | (go_at_call 43; (with_reducible refine KL.out.mono ?_); rintro e w' ⟨rfl, rfl⟩))
        go_ret
        exact ⟨rfl, rfl⟩
      · rw [if_neg hf]
        refine (sPut_mem hm hv hl hr (by omega) hpl.pl ?_).mono ?_
        · rw [hput] at hf
          by_cases hin : n ∈ pk
          · exact .inl hin
          · refine .inr ?_
            have : ¬ 37 ≤ pk.length := fun h => hf ⟨hin, h⟩
            omega
        · rintro e w' ⟨rfl, u, hm', hu, hsz, hext⟩
          have hP : ∀ k, k = bp → P k := fun k e => ho k (.inr (.inr (.inr (.inl e))))
          refine ⟨rfl, grP P w w', ⟨b, be, bp, Pd, q, ek, eg, ev, addS pk n, _, _, rfl, hm', ?_, ?_, ?_⟩, (hext.sub hP).chg⟩
          · have hnn : ((n.toNat : Nat) : Int) = n := Int.toNat_of_nonneg hr.1
            refine { hpl with ok := { hpl.ok with call := fun _ => by show (X.call.set _ _).length = _; rw [List.length_set]; exact hcl }, kp := ?_, pl := ?_, wi0 := fun e => Bool.noConfusion (show true = false from e), wi1 := fun _ => ⟨?_, ?_, ?_⟩ }
            · intro x hx
              rcases addS_mem.1 hx with hx | rfl
              · exact hpl.kp x hx
              · exact ⟨hr.1, by show x < (X.is.length : Int); omega, hj⟩
            · unfold addS
              split
              · exact hpl.pl
              · rename_i hin
                have : ¬ 37 ≤ pk.length := fun h => hf (by rw [hput]; exact ⟨hin, h⟩)
                rw [List.length_append, List.length_singleton]; omega
            · show addS X.put n = addS pk n
              rw [hput]
            · show (X.call.set _ _).length = _
              rw [List.length_set]; exact hcl
            · intro i hoi hi
              have hi' : i < X.is.length := hi
              show (X.call.set n.toNat l).getD i [] = _
              by_cases e : n.toNat = i
              · subst e
                rw [List.getD_eq_getElem?_getD, List.getElem?_set_self (by omega), if_pos (addS_mem.2 (.inr hnn)), if_pos hnn]; rfl
              · have hne : (i : Int) ≠ n := fun e' => e (by omega)
                rw [List.getD_eq_getElem?_getD, List.getElem?_set_ne e, ← List.getD_eq_getElem?_getD, hcv i hoi hi']
                by_cases hin : (i : Int) ∈ pk
                · rw [if_pos hin, if_pos (addS_mem.2 (.inl hin)), if_neg hne]
                · rw [if_neg hin, if_neg fun h => hin ((addS_mem.1 h).resolve_right hne)]
          · intro k hk
            rcases hk with hk | rfl | rfl | rfl | ⟨x, hx, hg⟩ | ⟨x, hx, hg⟩
            · exact .inl (ho k (.inl hk))
            · exact .inl (ho _ (.inr (.inl rfl)))
            · exact .inl (ho _ (.inr (.inr (.inl rfl))))
            · exact .inl (ho _ (.inr (.inr (.inr (.inl rfl)))))
            · exact .inl (ho k (.inr (.inr (.inr (.inr (.inl ⟨x, hx, hg⟩))))))
            · by_cases e : x = n
              · have hg : (if x = n then u else pg x).ownBlock = some k := hg
                rw [if_pos e] at hg
                exact .inr (hu k hg)
              · have hg : (if x = n then u else pg x).ownBlock = some k := hg
                rw [if_neg e] at hg
                exact .inl (ho k (.inr (.inr (.inr (.inr (.inr ⟨x, (addS_mem.1 hx).resolve_right e, hg⟩))))))
          · rintro k (hk | hk)
            · exact Nat.lt_of_lt_of_le (hlt k hk) hsz
            · exact hk.2
end
end Go.Proofs.YtaakepjgpnaecaaGreat
