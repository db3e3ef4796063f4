/- The law's own 'same': a row of the code and one of the reference that are the same bits are told to be so. -/
import Derived.Test.YtnifekbdjgklmaaBytesG
import Derived.Test.YtnifekbdjgklmaaBitsF
import Derived.Laws.BytesArg
import Derived.Deep.RegionHeld
namespace Go.Proofs.Ytnifekbdjgklmaa
open Go.RowKit BM

theorem conv_bsl {w : World} {v : Value} {l : List Int} (hs : BSl w v l) : (convert 36 9 v).run Try.prog w = .ok (.string (strOfNums l)) w := by
  rcases hs.2 with ⟨rfl, rfl⟩ | ⟨⟨b, off, spot⟩, cap, rfl, hc⟩
  · exact run_convert_bytes_nil w 36 5 Try.underlying36 Try.underlying5 0 0 _ Try.underlying9
  · by_cases h0 : l.length = 0
    · obtain rfl : l = [] := List.eq_nil_of_length_eq_zero h0
      rw [run_convert_bytes_string w 36 9 5 _ _ cap Try.underlying36 Try.underlying5 Try.underlying9,
        run_bytesToString w _ _ cap [] (by simp [loadCells, loadCellsFrom, Sem.run_pure])]
      rfl
    · obtain ⟨_, hsp, _⟩ := hc 0 (by omega)
      obtain rfl : spot = none := hsp
      exact run_convert_bytes_arg w 36 5 Try.underlying36 Try.underlying5 b off l.length cap l rfl (fun i hi => (hc i hi).2.2) _ Try.underlying9

theorem conv_later {w : World} {v : Value} {l : List Int} (hs : BSl w v l) : ∀ W, Below w.heap.size w W → (convert 36 9 v).run Try.prog W = .ok (.string (strOfNums l)) W :=
  fun _ hb => conv_bsl (hs.below hb)

theorem bBytes_c {w0 w : World} {p g : Nat} {L : List Bool} (h : BRow w0 p g L) (l : List Int) (hr : Rep l L) (hb : Below w0.heap.size w0 w) :
    Calls Try.prog 20 #[.pointer (some ⟨p, 0, none⟩)] w fun e w' => ∃ v, e = .returned v ∧ (∀ W, Below w'.heap.size w' W → (convert 36 9 v).run Try.prog W = .ok (.string (strOfNums l)) W) ∧ Below w0.heap.size w0 w' :=
  (bBytes_any (h.below hb h.lt.1 h.lt.2) l hr).mono fun _ _ ⟨v, he, hs, hb2⟩ => ⟨v, he, conv_later hs, hb.trans (hb2.mono hb.size)⟩
theorem rBytes_c {w0 w : World} {p g : Nat} {L : List Bool} (h : RRow w0 p g L) (l : List Int) (hr : Rep l L) (hb : Below w0.heap.size w0 w) :
    Calls Try.prog 26 #[.pointer (some ⟨p, 0, none⟩)] w fun e w' => ∃ v, e = .returned v ∧ (∀ W, Below w'.heap.size w' W → (convert 36 9 v).run Try.prog W = .ok (.string (strOfNums l)) W) ∧ Below w.heap.size w w' ∧ Below w0.heap.size w0 w' :=
  (rBytes_any (h.below hb h.lt.1 h.lt.2) l hr).mono fun _ _ ⟨v, he, hs, hb2⟩ => ⟨v, he, conv_later hs, hb2, hb.trans (hb2.mono hb.size)⟩

theorem bCount_c {w0 w : World} {p g : Nat} {L : List Bool} (h : BRow w0 p g L) (C : Int) (hC : C = countB L) (hb : Below w0.heap.size w0 w) :
    Calls Try.prog 27 #[.pointer (some ⟨p, 0, none⟩)] w fun e w' => e = .returned (.int .i64 C) ∧ Below w0.heap.size w0 w' :=
  (bCount_any (h.below hb h.lt.1 h.lt.2)).mono fun _ _ ⟨he, m, hw⟩ => ⟨by rw [he, hC], by rw [hw]; exact below_drewN' hb m⟩
theorem rCount_c {w0 w : World} {p g : Nat} {L : List Bool} (h : RRow w0 p g L) (C : Int) (hC : C = countB L) (hb : Below w0.heap.size w0 w) :
    Calls Try.prog 28 #[.pointer (some ⟨p, 0, none⟩)] w fun e w' => e = .returned (.int .i64 C) ∧ Below w0.heap.size w0 w' :=
  (rCount_any (h.below hb h.lt.1 h.lt.2)).mono fun _ _ ⟨he, hw⟩ => ⟨by rw [he, hC], by rw [← hw]; exact hb⟩
theorem bLen_c {w0 w : World} {p g : Nat} {L : List Bool} (h : BRow w0 p g L) (N : Nat) (hN : N = L.length) (hb : Below w0.heap.size w0 w) :
    Calls Try.prog 21 #[.pointer (some ⟨p, 0, none⟩)] w fun e w' => e = .returned (.int .i64 N) ∧ Below w0.heap.size w0 w' :=
  (bLen_row (h.below hb h.lt.1 h.lt.2)).mono fun _ _ ⟨he, hw⟩ => ⟨by rw [he, hN], by rw [← hw]; exact hb⟩
theorem rcell_c {w0 w : World} {p g : Nat} {L : List Bool} (h : RRow w0 p g L) (N : Nat) (hN : N = L.length) (hb : Below w0.heap.size w0 w) :
    w.cell? ⟨p, 0, none⟩ = some (.slice (some ⟨g, 0, none⟩) N N) := by
  rw [hN]; exact (h.below hb h.lt.1 h.lt.2).cells.1

set_option maxHeartbeats 6000000 in
theorem same1_any {w : World} {p g q r : Nat} {L : List Bool} (h : BRow w p g L) (k : RRow w q r L) :
    Calls Try.prog 17 #[.pointer (some ⟨p, 0, none⟩), .pointer (some ⟨q, 0, none⟩)] w fun e w' => e = .returned (.bool true) ∧ Below w.heap.size w w' := by
  obtain ⟨l, hr, _⟩ := h.cells
  obtain ⟨C, hC⟩ : ∃ C : Int, C = countB L := ⟨_, rfl⟩
  obtain ⟨N, hN⟩ : ∃ N, N = L.length := ⟨_, rfl⟩
  have HC := Lib.hid hC
  have HN := Lib.hid hN
  clear hC hN
  have hb0 : Below w.heap.size w w.drew := (Below.refl _ _).drew
  have hrefl : ∀ W : World, Below W.heap.size W W := fun W => Below.refl _ _
  go_enter Try.func17, Try.ntmps17
  go_wp2_with fail
  have hq0 := rcell_c k N HN.out hb0
  go_region_held (fun W => W.cell? ⟨q, 0, none⟩ = some (.slice (some ⟨r, 0, none⟩) N N)) (go_keep) (first
    | (go_at_call 20; refine (bBytes_c h l hr hb0).mono ?_; rintro e w1 ⟨v1, rfl, hv1, hb1⟩; have hq1 := rcell_c k N HN.out hb1)
    | (go_at_call 26; refine (rBytes_c k l hr hb1).mono ?_; rintro e w2 ⟨v2, rfl, hv2, hb12, hb2⟩; have hq2 := rcell_c k N HN.out hb2)
    | (go_at_call 27; refine (bCount_c h C HC.out hb2).mono ?_; rintro e w3 ⟨rfl, hb3⟩; have hq3 := rcell_c k N HN.out hb3)
    | (go_at_call 28; refine (rCount_c k C HC.out hb3).mono ?_; rintro e w4 ⟨rfl, hb4⟩; have hq4 := rcell_c k N HN.out hb4)
    | (go_at_call 21; refine (bLen_c h N HN.out hb4).mono ?_; rintro e w5 ⟨rfl, hb5⟩; have hq5 := rcell_c k N HN.out hb5))

  all_goals go_wp2_with fail
  all_goals go_ret
  all_goals exact ⟨rfl, hb5⟩

end Go.Proofs.Ytnifekbdjgklmaa
