/- Contracts of Bytes, the code's and the reference's; what a conversion to a string gives. -/
import Derived.Test.YtflkggoknmgbnaaBitsE
import Derived.Test.YtflkggoknmgbnaaRefB
namespace Go.Proofs.Ytflkggoknmgbnaa
open Go.RowKit BM

/-- A new slice that reads as l; nothing that was there has turned. -/
def NewBytes (w : World) (l : List Int) (e : Ending) (w' : World) : Prop :=
  ∃ v, e = .returned v ∧ BSl w' v l ∧ Below w.heap.size w w'

theorem bsl_row {w : World} {g : Nat} {l : List Int} (hb : ∀ j, 0 ≤ l.getD j 0 ∧ l.getD j 0 ≤ 255) (hg : w.heap[g]? = some (.cells (l.map (Value.int .u8)).toArray 5 (0, 0))) (c : Nat) (hcl : l.length ≤ c) :
    BSl w (.slice (some ⟨g, 0, none⟩) l.length c) l := by
  refine ⟨hb, .inr ⟨_, c, rfl, hcl, fun j hj => ⟨(Array.getElem?_eq_some_iff.1 hg).1, rfl, ?_⟩⟩⟩
  show w.cell? ⟨g, 0 + j, none⟩ = _
  rw [Nat.zero_add, cell_of_row _ _ _ _ _ _ hg]
  simp [List.getD_eq_getElem?_getD, hj]

theorem bBytes_l {w : World} {p g : Nat} {L : List Bool} (h : BRow w p g L) :
    Calls Try.prog 29 #[.pointer (some ⟨p, 0, none⟩)] w fun e w' => ∃ l, Rep l L ∧ NewBytes w l e w' := by
  have hn := h.1
  have hlt := h.lt
  obtain ⟨l, hr, hc, hs, hx, hf, hg⟩ := h.cells
  have hlen := hr.len
  obtain ⟨N, hN⟩ : ∃ N, N = l.length := ⟨_, rfl⟩
  rw [← hN] at hs hx
  have hNN : N ≤ 600 := by omega
  have HN := Lib.hid hN
  have HX := Lib.hid hx
  have hbl : Below w.heap.size w (w.alloc (.cells (Array.replicate N (.int .u8 0)) 5)) := (Below.refl _ _).alloc (Nat.le_refl _) _
  have hg2 : (w.alloc (.cells (Array.replicate N (.int .u8 0)) 5)).heap[w.heap.size]? = some (.cells (List.replicate N (Value.int .u8 0)).toArray 5 (0, 0)) := by
    rw [heap_alloc_new]; simp
  have hcl : (l.map (Value.int .u8)).length = N := by rw [List.length_map, ← hN]
  have hmm : N = Nat.min N N := by simp
  have hfit : 0 + (l.map (Value.int .u8)).length ≤ (List.replicate N (Value.int .u8 0)).length := by rw [List.length_map, ← hN]; simp
  have hsrc : 0 < (l.map (Value.int .u8)).length → some (⟨w.heap.size, 0, none⟩ : Addr) = some ⟨w.heap.size, 0, none⟩ ∧ ∃ ad, some (⟨g, 0, none⟩ : Addr) = some ad ∧ ∀ j v, (l.map (Value.int .u8))[j]? = some v → (w.alloc (.cells (Array.replicate N (.int .u8 0)) 5)).cell? (ad.add j) = some v := fun _ => by
    refine ⟨rfl, _, rfl, fun j v hj => ?_⟩
    have hjl : j < l.length := by simpa using (List.getElem?_eq_some_iff.1 hj).1
    rw [Addr.add_lit, Nat.zero_add, hbl.cell (by exact hlt.2), hx j (by omega), ← hj]
    simp [List.getD_eq_getElem?_getD, hjl]
  have HG2 := Lib.hid hg2
  have HC := Lib.hid hcl
  have HM := Lib.hid hmm
  have HF := Lib.hid hfit
  have HS := Lib.hid hsrc
  have HL := Lib.hid hlen
  have hs1 : (w.alloc (.cells (Array.replicate N (.int .u8 0)) 5)).cell? ⟨p, 1, none⟩ = some (.slice (some ⟨g, 0, none⟩) N N) := by rw [hbl.cell (by exact hlt.1)]; exact hs
  clear hN hx hg2 hcl hmm hfit hsrc hf hg hlen
  go_enter Try.func29, Try.ntmps29
  go_wp2_with (first
    | (at_make; refine wpList_make_u8 _ rfl _ _ rfl _ N rfl rfl rfl (by omega) ?_)
    | (with_reducible refine wpList_copy_wrote rfl _ _ 23 23 rfl 5 Try.underlying23 (by kernel_rfl) _ _ _ _ _ _ rfl rfl w.heap.size 0 (List.replicate N (Value.int .u8 0)) 5 HG2.out (l.map (Value.int .u8)) N HC.out HM.out HS.out HF.out (ints_oneCell _ _) ?_; intro w2 HG3 HW2))
  go_ret
  refine ⟨l, hr, _, rfl, ?_, hbl.trans (HW2.below (Nat.le_refl _))⟩
  have h3 := HG3.out
  rw [splice_whole _ _ (by rw [HC.out]; simp)] at h3
  rw [HN.out]
  exact bsl_row hr.byte h3 _ (by omega)

theorem bBytes_any {w : World} {p g : Nat} {L : List Bool} (h : BRow w p g L) (l : List Int) (hr : Rep l L) :
    Calls Try.prog 29 #[.pointer (some ⟨p, 0, none⟩)] w (NewBytes w l) :=
  (bBytes_l h).mono fun e w' ⟨m, hm, hN⟩ => by rw [rep_ext hr hm]; exact hN

/-- What the reference's Bytes has made after k rounds. -/
def part (L : List Bool) (k : Nat) : List Bool := L.take k ++ List.replicate (L.length - k) false
theorem part_length (L : List Bool) (k : Nat) (hk : k ≤ L.length) : (part L k).length = L.length := by simp [part]; omega
theorem part_getD (L : List Bool) (k j : Nat) : (part L k).getD j false = if j < k then L.getD j false else false := by
  unfold part
  simp only [List.getD_eq_getElem?_getD]
  by_cases h : j < k
  · rw [if_pos h]
    by_cases h2 : j < L.length
    · rw [List.getElem?_append_left (by simp; omega), List.getElem?_take, if_pos h]
    · rw [List.getElem?_eq_none (l := L) (by omega), List.getElem?_eq_none (by simp; omega)]
  · rw [if_neg h, List.getElem?_append]
    split
    · rename_i h2; simp at h2; omega
    · rw [List.getElem?_replicate]; split <;> rfl
theorem part_zero (L : List Bool) : part L 0 = List.replicate L.length false := by simp [part]
theorem part_all (L : List Bool) (k : Nat) (h : L.length ≤ k) : part L k = L := by simp [part, List.take_of_length_le h, show L.length - k = 0 by omega]
theorem list_ext_getD {A B : List Bool} (hl : A.length = B.length) (h : ∀ j, A.getD j false = B.getD j false) : A = B := by
  apply List.ext_getElem hl
  intro j h1 h2
  have := h j
  simpa [List.getD_eq_getElem?_getD, h1, h2] using this
theorem part_step (L : List Bool) (k : Nat) (hk : k < L.length) (b : Bool) (hb : L.getD k false = b) : part L (k + 1) = if b then (part L k).set k true else part L k := by
  apply list_ext_getD
  · cases b <;> simp [part_length, Nat.le_of_lt hk, Nat.succ_le_of_lt hk]
  · intro j
    rw [part_getD]
    cases b
    · simp only [Bool.false_eq_true, if_false, part_getD]
      by_cases h1 : j < k
      · rw [if_pos h1, if_pos (by omega)]
      · rw [if_neg h1]
        by_cases e : j = k
        · rw [e, if_pos (by omega), hb]
        · rw [if_neg (by omega)]
    · simp only [if_true]
      rw [getD_set _ _ _ _ _ (by rw [part_length _ _ (by omega)]; exact hk), part_getD]
      by_cases e : j = k
      · rw [if_pos e, e, if_pos (by omega), hb]
      · rw [if_neg e]
        by_cases h1 : j < k
        · rw [if_pos h1, if_pos (by omega)]
        · rw [if_neg h1, if_neg (by omega)]

theorem or_bit' (x : Int) (k : Nat) (hk : k < 8) (h0 : 0 ≤ x) (h1 : x ≤ 255) : bits BinOp.or IntKind.u8 x (2 ^ k % 256) = if bitAt x k then x else x + 2 ^ k := by
  have e : (2 : Int) ^ k % 256 = IntKind.u64.wrap (2 ^ k) % 256 := by
    have h : k = 0 ∨ k = 1 ∨ k = 2 ∨ k = 3 ∨ k = 4 ∨ k = 5 ∨ k = 6 ∨ k = 7 := by omega
    rcases h with rfl | rfl | rfl | rfl | rfl | rfl | rfl | rfl <;> decide
  rw [e, or_bit x k hk h0 h1]

theorem rBytes_any {w : World} {p g : Nat} {L : List Bool} (h : RRow w p g L) (l : List Int) (hr : Rep l L) :
    Calls Try.prog 35 #[.pointer (some ⟨p, 0, none⟩)] w (NewBytes w l) := by
  have hn := h.1
  have hlt := h.lt
  have hlen := hr.len
  obtain ⟨hs, hx, hf⟩ := h.cells
  obtain ⟨N, hN⟩ : ∃ N, N = l.length := ⟨_, rfl⟩
  rw [← hN] at hlen
  have e8 : ((L.length : Int) + 7) / 8 = (N : Int) := by omega
  have hNN : N ≤ 600 := by omega
  have HN := Lib.hid hN
  have HX := Lib.hid hx
  have HE := Lib.hid e8
  have HL := Lib.hid hlen
  have hbl : Below w.heap.size w (w.alloc (.cells (Array.replicate N (.int .u8 0)) 5)) := (Below.refl _ _).alloc (Nat.le_refl _) _
  have hs1 : (w.alloc (.cells (Array.replicate N (.int .u8 0)) 5)).cell? ⟨p, 0, none⟩ = some (.slice (some ⟨g, 0, none⟩) L.length L.length) := by rw [hbl.cell (by exact hlt.1)]; exact hs
  clear hN hx hf e8 hlen
  go_enter Try.func35, Try.ntmps35
  go_wp2_with (at_make; refine wpList_make_u8 _ rfl _ _ rfl _ N rfl rfl HE.out (by omega) ?_)
  go_loopw [18] (fun i wr => ∃ (k : Nat) (m : List Int), k ≤ L.length ∧ i = .int .i64 k ∧ Hid (Rep m (part L k)) ∧ Hid (wr.heap[w.heap.size]? = some (.cells (m.map (Value.int .u8)).toArray 5 (0, 0))) ∧ Below w.heap.size w wr)
    (fun i _ => L.length - (intOf i).toNat)
  case atStart =>
    refine ⟨0, List.replicate ((L.length + 7) / 8) 0, by omega, rfl, ?_, ?_, hbl⟩
    · rw [part_zero]; exact rep_new L.length
    · rw [heap_alloc_new, ← HL.out]; simp [Hid]
  case round =>
    obtain ⟨k, m, hk, rfl, hrep, hgm, hbr⟩ := hrel
    have hml := hrep.out.len
    rw [part_length L k hk, ← HL.out] at hml
    have HML := Lib.hid hml
    clear hml
    have hp := (hbr.cell (p := ⟨p, 0, none⟩) hlt.1).trans hs
    by_cases hlt2 : k < L.length
    · have hkN : k / 8 < N := by have := HL.out; omega
      have hkN' : (k : Int) / 8 < (N : Int) := by omega
      have hg0 := (hbr.cell (p := ⟨g, k, none⟩) hlt.2).trans (HX.out k hlt2)
      cases hb : L.getD k false
      · rw [hb] at hg0
        have HP := Lib.hid (part_step L k hlt2 false hb)
        clear hb
        go_wp2_with fail
        go_roundw
        case rel =>
          refine ⟨k + 1, m, by omega, by go_num, ?_, hgm, hbr⟩
          have := HP.out
          rw [if_neg (by decide)] at this
          rw [this]; exact hrep
        case measure => simp [intOf]; omega
      · rw [hb] at hg0
        have HP := Lib.hid (part_step L k hlt2 true hb)
        have hxb := hrep.out.byte (k / 8)
        obtain ⟨x, hx⟩ : ∃ x, x = m.getD (k / 8) 0 := ⟨_, rfl⟩
        have hcx : wr.cell? ⟨w.heap.size, k / 8, none⟩ = some (.int .u8 x) := by
          rw [cell_of_row _ _ _ _ _ _ hgm.out, hx]
          simp [List.getD_eq_getElem?_getD, HML.out, hkN]
        have hfx : wr.frozen? ⟨w.heap.size, k / 8, none⟩ = false := frozen_of_row _ _ _ _ _ hgm.out
        rw [← hx] at hxb
        have HXX := Lib.hid hx
        clear hb hx
        go_wp2_with fail
        go_region
        go_wp2_with fail
        go_roundw
        case rel =>
          have hk8 : k % 8 < 8 := Nat.mod_lt _ (by omega)
          have hpl : k < (part L k).length := by rw [part_length L k hk]; exact hlt2
          have hset := rep_set hrep.out k true hpl (bits BinOp.or IntKind.u8 x (2 ^ (k % 8) % 256)) (by rw [or_bit' x _ hk8 hxb.1 hxb.2, ← HXX.out]; rfl)
          have hP := HP.out
          rw [if_pos trivial] at hP
          refine ⟨k + 1, _, by omega, by go_num, by rw [hP]; exact hset, ?_, ?_⟩
          · show (wr.setCell _ _).heap[w.heap.size]? = _
            rw [heap_setCell_same _ _ _ _ _ _ hgm.out, List.map_set]
            simp
          · exact (hbr.setCell (p := ⟨w.heap.size, k / 8, none⟩) (Nat.le_refl _) _).drew
        case measure => simp [intOf]; omega
    · go_wp2_with fail
      go_ret
      have hr2 := hrep.out
      rw [part_all L k (by omega)] at hr2
      obtain rfl : m = l := rep_ext hr2 hr
      exact ⟨_, rfl, by rw [HN.out]; exact bsl_row hr.byte hgm.out _ (by first | omega | exact Nat.le_refl _), hbr⟩

end Go.Proofs.Ytflkggoknmgbnaa
