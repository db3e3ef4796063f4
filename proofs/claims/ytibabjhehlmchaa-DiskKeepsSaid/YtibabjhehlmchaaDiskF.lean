/- Package disk: Write. -/
import Derived.Test.YtibabjhehlmchaaDiskE
import Derived.Deep.RegionLaw
namespace Go.Proofs.Ytibabjhehlmchaa
open Go.RowKit
set_option linter.unusedVariables false

theorem range_grown {w w' : World} {row : Option Nat} {b o : Nat} {cs : List Value} (h : w.rangeAt b o cs) (hg : w.grownBy w' row) (hlt : b < w.heap.size) (hne : row ≠ some b) : w'.rangeAt b o cs := fun j v hv => by
  rw [hg.cell_far _ hlt (Ne.symm hne)]; exact h j v hv
theorem range_setCell {w : World} {b o : Nat} {cs : List Value} (h : w.rangeAt b o cs) (p : Addr) (u : Value) (hne : p.block ≠ b) : (w.setCell p u).rangeAt b o cs := fun j v hv => by
  rw [World.cell?_setCell_other _ _ _ _ (fun e => hne (by rw [e]))]; exact h j v hv

/-- One more unflushed Write. -/
theorem DskAt.pushU {w : World} {B bp bf bv : Nat} {u : Value} {F V : List (List Int)} {U : List (Nat × List Int)} {fu dn : Bool} {le : Int} (h : DskAt w B bp bf bv u F V U fu le dn) {W w3 : World} (hw : Below w.heap.size w W) (hB : B ≤ w.heap.size)
    (hgrow : W.grownBy w3 u.ownBlock) (g cap : Nat) (x : Nat × List Int) (hx : x.1 < V.length ∧ Blk x.2) (hown : w3.ownsRow B 53 257 (.slice (some ⟨g, 0, none⟩) (U.length + 1) cap) (U.length + 1) (U.flatMap cU ++ cU x)) (hat : u.ownBlock = some g ∨ g = W.heap.size) :
    DskAt (w3.setCell ⟨bp, 2, none⟩ (.slice (some ⟨g, 0, none⟩) (U.length + 1) cap)) B bp bf bv (.slice (some ⟨g, 0, none⟩) (U.length + 1) cap) F V (U ++ [x]) fu le dn ∧ Below B w (w3.setCell ⟨bp, 2, none⟩ (.slice (some ⟨g, 0, none⟩) (U.length + 1) cap)) := by
  have h' := h.below hw
  have l1 := (Array.getElem?_eq_some_iff.1 h'.hp).1
  have l2 := (Array.getElem?_eq_some_iff.1 h'.hf).1
  have l3 := (Array.getElem?_eq_some_iff.1 h'.hv).1
  have n1 := h.une
  have key : ∀ {k : Nat} {o : Obj}, some k ≠ u.ownBlock → W.heap[k]? = some o → w3.heap[k]? = some o := fun hk hh => by
    rw [hgrow.block _ (Array.getElem?_eq_some_iff.1 hh).1 hk]; exact hh
  have gne : g ≠ bp ∧ g ≠ bf ∧ g ≠ bv := by
    rcases hat with hat | hat
    · rw [hat] at n1
      exact ⟨fun e => n1.1 (by rw [e]), fun e => n1.2.1 (by rw [e]), fun e => n1.2.2 (by rw [e])⟩
    · omega
  have hne := h.ne
  have oth : ∀ {k : Nat}, k ≠ bp → (w3.setCell ⟨bp, 2, none⟩ (.slice (some ⟨g, 0, none⟩) (U.length + 1) cap)).heap[k]? = w3.heap[k]? := fun hk => heap_setCell_other _ _ _ _ hk
  have hfm : (U ++ [x]).flatMap cU = U.flatMap cU ++ cU x := by simp
  have hln : (U ++ [x]).length = U.length + 1 := by simp
  refine ⟨⟨h.bB, h.ne, ?_, ?_, ?_, ?_, ?_, h.okF, h.okV, ?_, h.len, h.max⟩, ?_⟩
  · have := heap_setCell_same w3 bp 2 _ _ (.slice (some ⟨g, 0, none⟩) (U.length + 1) cap) (key (Ne.symm n1.1) h'.hp)
    simpa using this
  · rw [oth (Ne.symm hne.1)]; exact key (Ne.symm n1.2.1) h'.hf
  · rw [oth (Ne.symm hne.2.1)]; exact key (Ne.symm n1.2.2) h'.hv
  · rw [hfm, hln]
    refine ⟨hown.1, ?_⟩
    rcases hown.2 with ⟨h0, _⟩ | ⟨g', cap', cur, hv, hg, hh, r⟩
    · simp at h0
    · simp only [Value.slice.injEq, Option.some.injEq, Addr.mk.injEq, and_true, true_and] at hv
      obtain ⟨rfl, rfl⟩ := hv
      exact .inr ⟨g, cap, cur, rfl, hg, by rw [oth gne.1]; exact hh, r⟩
  · refine ⟨fun e => gne.1 (by simpa [Value.ownBlock] using e), fun e => gne.2.1 (by simpa [Value.ownBlock] using e), fun e => gne.2.2 (by simpa [Value.ownBlock] using e)⟩
  · intro y hy
    rcases List.mem_append.1 hy with hy | hy
    · exact h.okU y hy
    · obtain rfl := List.mem_singleton.1 hy; exact hx
  · refine Below.setCell (((hw.mono hB)).grown hgrow (Nat.le_trans hB hw.size) fun k hk => (h.hu.lt k hk).1) (by exact h.bB.1) _

theorem dWrite_no {w : World} {B : Nat} {p : Value} {F V : List (List Int)} {U : List (Nat × List Int)} (h : Dsk w B p F V U) (n : Int) {v : Value} {l : List Int} (hv : BSl w v l) (hno : ¬ ((0 ≤ n ∧ n < V.length) ∧ l.length = 256)) :
    Calls Try.prog 9 #[p, .int .i64 n, v] w fun e w' => e = .returned (.int .i64 1) ∧ w = w' := by
  obtain ⟨bp, bf, bv, u, rfl, h⟩ := h
  go_enter Try.func9, Try.ntmps9
  go_wp2_with (go_at_call 20; refine (dFits_at h n hv).mono ?_; rintro e w' ⟨rfl, rfl⟩; rw [decide_eq_false hno])
  go_ret
  exact ⟨rfl, rfl⟩

attribute [-go_sem] Instr.build Instr.buildSlice loadCellsFrom

set_option maxRecDepth 100000 in
set_option maxHeartbeats 3000000 in
theorem dWrite_at {w : World} {B : Nat} {p : Value} {F V : List (List Int)} {U : List (Nat × List Int)} (h : Dsk w B p F V U) (n : Nat) (hn : n < V.length) {v : Value} {l : List Int} (hv : BSl w v l) (hl : l.length = 256) (hU : U.length ≤ 1000000) :
    Calls Try.prog 9 #[p, .int .i64 n, v] w fun e w' => e = .returned (.int .i64 0) ∧ Dsk w' B p F (V.set n l) (U ++ [(n, l)]) ∧ Below B w w' := by
  obtain ⟨bp, bf, bv, u, rfl, h⟩ := h
  have hBw : B ≤ w.heap.size := by
    have h1 := (Array.getElem?_eq_some_iff.1 h.hp).1
    have := h.bB
    omega
  have hd : decide ((0 ≤ (n : Int) ∧ (n : Int) < V.length) ∧ l.length = 256) = true := decide_eq_true ⟨by omega, hl⟩
  have hn' : (n : Int) < V.length := by omega
  have HL : Hid ((cB l).length = 256) := by show _ = _; rw [cB_length, hl]
  have HB : Hid (Blk l) := ⟨hl, hv.1⟩
  have HZ := Lib.hid zB_length
  have hone : ∀ v ∈ zB, v.oneCell' = true := fun v hv => by rw [List.eq_of_mem_replicate hv]; rfl
  have HH := Lib.hid hl
  clear hl
  go_enter Try.func9, Try.ntmps9
  go_wp2_with (first
    | (go_at_call 20; refine (dFits_at h n hv).mono ?_; rintro e w' ⟨rfl, rfl⟩; rw [hd])
    | (go_at_call 21; refine (dPowered_at h).mono ?_; rintro e w' ⟨rfl, rfl⟩)
    | (go_at_call 22; refine (dBlockOf_any hv HH.out).mono ?_; rintro e w1 ⟨rfl, hb1⟩)
    | with_reducible refine wpList_allocB _ rfl rfl ?_
    | (refine wpList_storeB _ rfl _ _ (by rfl) _ 50 zB (cB l) (by rfl) (by rfl) (heap_alloc_last _ _) HZ.out HL.out (cB_one l) ?_
       rw [World.setRow_alloc_new]))
  have hb2 : Below w.heap.size w (w1.alloc (.cells (cB l).toArray 50)) := hb1.alloc hb1.size _
  obtain ⟨H1, hH1⟩ : ∃ H1, H1 = w1.heap.size := ⟨_, rfl⟩
  have hrow : (w1.alloc (.cells (cB l).toArray 50)).heap[H1]? = some (.cells (cB l).toArray 50 (0, 0)) := by rw [hH1]; exact heap_alloc_last _ _
  rw [← hH1]
  have hlt1 : bp < H1 ∧ bf < H1 ∧ bv < H1 := by
    have h1 := (Array.getElem?_eq_some_iff.1 h.hp).1
    have h2 := (Array.getElem?_eq_some_iff.1 h.hf).1
    have h3 := (Array.getElem?_eq_some_iff.1 h.hv).1
    have := hb1.size
    omega
  have HH1 := Lib.hid hH1
  clear hH1
  generalize w1.alloc (.cells (cB l).toArray 50) = W1 at hb2 hrow ⊢
  have h1 := h.below hb2
  have rL : W1.rangeAt H1 0 (cB l) := range_row hrow (by rw [List.drop_zero, List.take_length])
  have tV : W1.there bv (n * 256) (cB l).length := there_row h1.hv (by rw [HL.out, flat_length (flatB_len h.okV)]; omega)
  have c1 := h1.c1
  have hone2 := cB_one l
  have hub := Try.underlying50
  have hib : (Try.prog.info? 50).map (·.size) = some (cB l).length := by rw [sizeB, HL.out]
  have hlen := HL.out
  have H := Lib.hid h
  have HV := Lib.hid hv
  have hS1 : W1.drew.cell? ⟨bp, 1, none⟩ = some (.slice (some ⟨bv, 0, none⟩) V.length V.length) ∧ W1.drew.rangeAt H1 0 (cB l) ∧ W1.drew.there bv (n * 256) (cB l).length := ⟨c1, rL, tV⟩
  have hS2 : (W1.drew.setCells bv (n * 256) (cB l)).cell? ⟨bp, 1, none⟩ = some (.slice (some ⟨bv, 0, none⟩) V.length V.length) ∧ (W1.drew.setCells bv (n * 256) (cB l)).rangeAt H1 0 (cB l) ∧ (W1.drew.setCells bv (n * 256) (cB l)).there bv (n * 256) (cB l).length :=
    ⟨by rw [World.cell?_setCells_out _ _ _ _ _ (fun e => absurd e h.ne.2.1)]; exact c1, World.rangeAt_setCells_apart hS1.2.1 _ _ _ (.inl (by omega)), World.there_setCells hS1.2.2 _ _ _⟩
  clear h1 hrow h hv
  go_region_held (fun W => W.cell? ⟨bp, 1, none⟩ = some (.slice (some ⟨bv, 0, none⟩) V.length V.length) ∧ W.rangeAt H1 0 (cB l) ∧ W.there bv (n * 256) (cB l).length) (first | exact hS1 | exact hS2) (fail)
  go_wp2_with fail
  obtain ⟨h2, hwr⟩ := H.out.setV (W := W1.drew) (hb2.drew) n hn l HB.out
  have hrow2 : (W1.drew.setCells bv (n * 256) (cB l)).rangeAt H1 0 (cB l) := hS2.2.1
  have hb3 : Below B w (W1.drew.setCells bv (n * 256) (cB l)) := ((hb2.mono hBw).drew).trans (hwr.below H.out.bB.2.2)
  have hsz2 : H1 < (W1.drew.setCells bv (n * 256) (cB l)).heap.size := World.block_lt_of_cell? _ _ (hrow2 0 _ (List.getElem?_eq_getElem (by omega)))
  generalize W1.drew.setCells bv (n * 256) (cB l) = W2 at h2 hrow2 hb3 hsz2 ⊢
  clear hS1 hS2 rL tV c1 hwr hb2
  have hB2 : B ≤ W2.heap.size := Nat.le_trans hBw hb3.size
  obtain ⟨i, hi1, hi2, hi3, hi4⟩ := info_parts infoW
  have c2 := h2.c2
  have fz := h2.fr 2
  have hbd := fun W => build_write W n l HH.out
  have hbs := fun W => slice_write W (.int .i64 n :: cB l) (by rw [List.length_cons, HL.out])
  have hown := h2.hu
  have hcu : (Value.int .i64 n :: cB l).length = 257 := by rw [List.length_cons, HL.out]
  have hcu1 : ∀ v ∈ (Value.int .i64 n :: cB l), v.oneCell' = true := cU_one (n, l)
  have hS1 : W2.drew.rangeAt H1 0 (cB l) := hrow2
  have hbpH : bp ≠ H1 := by omega
  have huH : u.ownBlock ≠ some H1 := fun e => by have := (H.out.hu.lt _ e).2; have := hb1.size; have := HH1.out; omega
  have hB2' := Lib.hid hB2
  have hzz : (Value.agg (Value.int .i64 0 :: zB).toArray).cells.size = 257 := by show (Value.int .i64 0 :: zB).toArray.size = 257; simp [zB_length]
  have hc3 : ∀ w3, ((W2.alloc (.cells (Value.int .i64 n :: cB l).toArray 53)).drew).grownBy w3 u.ownBlock → w3.cell? ⟨bp, 2, none⟩ = some u ∧ w3.frozen? ⟨bp, 2, none⟩ = false := fun w3 hg => by
    have hlt : bp < W2.heap.size := (Array.getElem?_eq_some_iff.1 h2.hp).1
    have hlt' : bp < ((W2.alloc (.cells (Value.int .i64 n :: cB l).toArray 53)).drew).heap.size := by simp; omega
    rw [hg.cell_far _ hlt' (Ne.symm h2.une.1), hg.frozen_far _ hlt' (Ne.symm h2.une.1)]
    exact ⟨by rw [World.cell?_drew, World.cell?_alloc_lt _ _ _ hlt]; exact c2, by rw [World.frozen?_drew, World.frozen?_alloc_past _ _ _ hlt]; exact fz⟩
  have hap := fun w3 hgrow g cap hown3 hat => h2.pushU (W := (W2.alloc (.cells (Value.int .i64 n :: cB l).toArray 53)).drew) (w3 := w3) (((Below.refl _ _).alloc (Nat.le_refl _) _).drew) hB2 hgrow g cap (n, l) ⟨by rw [List.length_set]; exact hn, HB.out⟩ hown3 hat
  have hcl : (loadCellsFrom ⟨H1, 0, none⟩ 0 256 #[]).run Try.prog W2.drew = .ok (cB l).toArray W2.drew := by
    have := run_loadCells_list (P := Try.prog) W2.drew ⟨H1, 0, none⟩ (cB l) (fun j v hv => by rw [Addr.add_mid]; exact hS1 j v hv)
    rw [HL.out] at this; exact this
  have hltbp : bp < W2.heap.size := (Array.getElem?_eq_some_iff.1 h2.hp).1
  clear hub hib hlen
  go_region_law
    ((refine step_append_lies _ (by rfl) _ _ _ (by rfl) B 53 i _ 257 264 Try.underlying45 hi1 hi2 hi3 hi4 hzz (by omega) u U.length (U.flatMap cU) (by rfl) ((hown.alloc _).drew)
        ⟨W2.heap.size, 0, none⟩ 1 1 (Value.int .i64 n :: cB l) (by rfl) hcu (World.news_of_block (cs := (Value.int .i64 n :: cB l).toArray) (t := 53) (fr := (0, 0)) (heap_alloc_new W2 _)) hcu1
        (by omega) (by simp only [maxLen]; omega) (by omega) (Nat.le_trans hB2 (by simp)) (W2.heap.size + 1) (by simp) ?_; intro gg cap w3 hown3 hgrow hat hlt; obtain ⟨c3, f3⟩ := hc3 w3 hgrow))
  all_goals
    obtain ⟨hd3, hb4⟩ := hap w3 hgrow gg cap hown3 (by simpa using hat)
    clear hap hc3
    go_wp2_with fail
    go_ret
    exact ⟨rfl, ⟨bp, bf, bv, _, rfl, hd3⟩, hb3.trans hb4⟩
end Go.Proofs.Ytibabjhehlmchaa
