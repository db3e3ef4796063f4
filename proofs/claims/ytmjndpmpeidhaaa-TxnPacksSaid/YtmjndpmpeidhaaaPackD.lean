/- Contracts of package pack and of the reference: Open. -/
import Derived.Test.YtmjndpmpeidhaaaPackC
namespace Go.Proofs.Ytmjndpmpeidhaaa
open Go.RowKit
set_option linter.unusedVariables false

theorem BSl.take {w : World} {a : Addr} {cap : Nat} {l : List Int} (h : BSl w (.slice (some a) l.length cap) l) (n : Nat) (hn : n ≤ l.length) : BSl w (.slice (some a) n cap) (l.take n) := by
  refine ⟨byt_take h.1 n, .inr ⟨a, cap, by rw [List.length_take, Nat.min_eq_left hn], ?_, fun j hj => ?_⟩⟩
  · rcases h.2 with ⟨hv, _⟩ | ⟨_, _, hv, hc, _⟩
    · simp at hv
    · obtain ⟨_, rfl⟩ : _ ∧ _ := by simpa using hv
      rw [List.length_take]; omega
  · rw [List.length_take, Nat.min_eq_left hn] at hj
    rcases h.2 with ⟨hv, _⟩ | ⟨a', c', hv, _, hc⟩
    · simp at hv
    · obtain ⟨rfl, rfl⟩ : a = a' ∧ cap = c' := by simpa using hv
      obtain ⟨h1, h2, h3⟩ := hc j (by omega)
      exact ⟨h1, h2, by rw [h3]; simp [List.getD_eq_getElem?_getD, hj]⟩

/-- What Open hands back. -/
def OpenOut (l : List Int) (w : World) (e : Ending) (w' : World) : Prop :=
  (sealed l ∧ ∃ v, e = .returned (.tuple #[v, .bool true]) ∧ OB w' w.heap.size v (l.take 252) ∧ Below w.heap.size w w') ∨
  (¬ sealed l ∧ e = .returned (.tuple #[.slice none 0 0, .bool false]) ∧ Below w.heap.size w w')

theorem pOpen_len {w : World} {ao : Option Addr} {len cap : Nat} (h : len ≠ 256) :
    Calls Try.prog 31 #[.slice ao len cap] w fun e w' => e = .returned (.tuple #[.slice none 0 0, .bool false]) ∧ w = w' := by
  have hne : ((len : Int) != 256) = true := by simp; omega
  go_enter Try.func31, Try.ntmps31
  go_wp2_with fail
  go_ret2
  exact ⟨rfl, rfl⟩
theorem pGet4 {w : World} {b off cap : Nat} {l : List Int} (hs : BSl w (.slice (some ⟨b, off, none⟩) 256 cap) l) (hl : l.length = 256) (G : Int) (hG : G = getV l 252 4) :
    Calls Try.prog 32 #[.slice (some ⟨b, off, none⟩) 256 cap, .int .i64 252, .int .i64 4] w fun e w' => e = .returned (.tuple #[.int .u64 G, .bool true]) ∧ w = w' := by
  rcases hs.2 with ⟨hv, _⟩ | ⟨a', c', hv, _, hc⟩
  · simp at hv
  · obtain ⟨rfl, _, rfl⟩ : _ ∧ _ ∧ _ := by simpa using hv
    have := pGet_at (w := w) (b := b) (off := off) (cap := cap) hs.1 (by omega) (fun j hj => (hc j hj).2.2) 252 4 (by omega) (by omega) (by omega)
    rw [hl] at this
    rw [hG]; exact this
theorem pOpen_no {w : World} {b off cap : Nat} {l : List Int} (hs : BSl w (.slice (some ⟨b, off, none⟩) 256 cap) l) (hl : l.length = 256) (hcap : 256 ≤ cap) (hne : getV l 252 4 ≠ sumS (l.take 252)) :
    Calls Try.prog 31 #[.slice (some ⟨b, off, none⟩) 256 cap] w fun e w' => e = .returned (.tuple #[.slice none 0 0, .bool false]) ∧ w = w' := by
  have ht : BSl w (.slice (some ⟨b, off, none⟩) 252 cap) (l.take 252) := BSl.take (by rw [hl]; exact hs) 252 (by omega)
  have hbd := getV_bound (byt_mem hs.1) 252 4
  have hSb := sumS_bound (l.take 252)
  have htl : (l.take 252).length ≤ 140737488355300 := by rw [List.length_take]; omega
  obtain ⟨G, hG⟩ : ∃ G, G = getV l 252 4 := ⟨_, rfl⟩
  obtain ⟨S, hS⟩ : ∃ S, S = sumS (l.take 252) := ⟨_, rfl⟩
  rw [← hG] at hbd hne
  rw [← hS] at hSb hne
  have hne' : (G != S) = true := by simpa using hne
  have hG1 : G < 4294967296 := by simpa using hbd.2
  have hG0 := hbd.1
  have HS := Lib.hid hs
  have HT := Lib.hid ht
  have HG := Lib.hid hG
  have HSS := Lib.hid hS
  have HL := Lib.hid hl
  have HTL := Lib.hid htl
  clear hs ht hG hS hl htl hbd
  go_enter Try.func31, Try.ntmps31
  go_wp2_with (first
    | (go_at_call 32; refine (pGet4 HS.out HL.out G HG.out).mono ?_; rintro e w' ⟨rfl, rfl⟩)
    | (go_at_call 35; refine (pSum_c HT.out (Below.refl _ _) HTL.out S HSS.out).mono ?_; rintro e w' ⟨rfl, rfl⟩))
  go_ret2
  exact ⟨rfl, rfl⟩

theorem pOpen_yes {w : World} {b off cap : Nat} {l : List Int} (hs : BSl w (.slice (some ⟨b, off, none⟩) 256 cap) l) (hl : l.length = 256) (hcap : 256 ≤ cap) (heq : getV l 252 4 = sumS (l.take 252)) :
    Calls Try.prog 31 #[.slice (some ⟨b, off, none⟩) 256 cap] w fun e w' => ∃ v, e = .returned (.tuple #[v, .bool true]) ∧ OB w' w.heap.size v (l.take 252) ∧ Below w.heap.size w w' := by
  have ht : BSl w (.slice (some ⟨b, off, none⟩) 252 cap) (l.take 252) := BSl.take (by rw [hl]; exact hs) 252 (by omega)
  have hSb := sumS_bound (l.take 252)
  have htl : (l.take 252).length = 252 := by rw [List.length_take]; omega
  obtain ⟨S, hS⟩ : ∃ S, S = sumS (l.take 252) := ⟨_, rfl⟩
  have hG : S = getV l 252 4 := by rw [hS, heq]
  rw [← hS] at hSb
  obtain ⟨M, hMM⟩ : ∃ M : Nat, M = 252 := ⟨_, rfl⟩
  have hMI : (252 : Int) = (M : Int) := by omega
  have hpos := src_cells hs (w1 := w.alloc (.cells (Array.replicate M (.int .u8 0)) 5)) (fun p hp => World.cell?_alloc_lt w _ p hp) 252
  have hg2 : (w.alloc (.cells (Array.replicate M (.int .u8 0)) 5)).heap[w.heap.size]? = some (.cells (List.replicate M (Value.int .u8 0)).toArray 5 (0, 0)) := by
    rw [heap_alloc_new]; simp
  have hcl : ((l.take 252).map (Value.int .u8)).length = M := by rw [List.length_map, htl, hMM]
  have hmm : M = Nat.min 256 M := (Nat.min_eq_right (by omega)).symm
  have hfit : 0 + ((l.take 252).map (Value.int .u8)).length ≤ (List.replicate M (Value.int .u8 0)).length := by rw [List.length_map, htl, List.length_replicate]; omega
  have hbl : Below w.heap.size w (w.alloc (.cells (Array.replicate M (.int .u8 0)) 5)) := (Below.refl _ _).alloc (Nat.le_refl _) _
  have HMM := Lib.hid hMM
  have HMI := Lib.hid hMI
  have hMle : M ≤ 200000000000000 := by omega
  have HS := Lib.hid hs
  have HT := Lib.hid ht
  have HG := Lib.hid hG
  have HSS := Lib.hid hS
  have HL := Lib.hid hl
  have HTL := Lib.hid htl
  have HP := Lib.hid hpos
  have HG2 := Lib.hid hg2
  have HC := Lib.hid hcl
  have HM := Lib.hid hmm
  have HF := Lib.hid hfit
  clear hs ht hG hS hl htl heq hpos hg2 hcl hmm hfit hMM hMI
  go_enter Try.func31, Try.ntmps31
  go_wp2_with (first
    | (go_at_call 32; refine (pGet4 HS.out HL.out S HG.out).mono ?_; rintro e w' ⟨rfl, rfl⟩)
    | (go_at_call 35; refine (pSum_c HT.out (Below.refl _ _) (by rw [HTL.out]; omega) S HSS.out).mono ?_; rintro e w' ⟨rfl, rfl⟩)
    | (at_make; refine wpList_make_u8 _ rfl _ _ rfl _ M rfl rfl HMI.out hMle ?_)
    | (with_reducible refine wpList_copy_wrote rfl _ _ 40 40 rfl 5 Try.underlying40 (by kernel_rfl) _ _ _ _ _ _ rfl rfl w.heap.size 0 (List.replicate M (Value.int .u8 0)) 5 HG2.out ((l.take 252).map (Value.int .u8)) M HC.out HM.out (fun h => ⟨rfl, HP.out h⟩) HF.out (ints_oneCell _ _) ?_
       intro w2 HG3 HW2))
  go_ret2
  refine ⟨_, rfl, ?_, hbl.trans (HW2.below (Nat.le_refl _))⟩
  have h3 := HG3.out
  rw [splice_whole _ _ (by rw [HC.out, List.length_replicate])] at h3
  have h5 := OB.of_heap (cap := M) (rest := []) (l := l.take 252) (B := w.heap.size) (byt_take HS.out.1 _) (Nat.le_refl _) (by rw [List.append_nil]; exact h3) (by rw [HTL.out, HMM.out]; rfl) (by rw [HMM.out]; decide)
  have e : (l.take 252).length = M := by rw [HTL.out, HMM.out]
  rw [e] at h5; exact h5

theorem pOpen_any {w : World} {v : Value} {l : List Int} (hs : BSl w v l) : Calls Try.prog 31 #[v] w (OpenOut l w) := by
  by_cases hl : l.length = 256
  · rcases hs.2 with ⟨_, rfl⟩ | ⟨⟨b, off, spot⟩, cap, rfl, hcap, hc⟩
    · simp at hl
    · obtain rfl : spot = none := (hc 0 (by omega)).2.1
      rw [hl] at hs hcap ⊢
      by_cases h : getV l 252 4 = sumS (l.take 252)
      · exact (pOpen_yes hs hl hcap h).mono fun e w' ⟨v, h1, h2, h3⟩ => .inl ⟨⟨hl, h⟩, v, h1, h2, h3⟩
      · exact (pOpen_no hs hl hcap h).mono fun e w' ⟨h1, h2⟩ => .inr ⟨fun hh => h hh.2, h1, by rw [← h2]; exact Below.refl _ _⟩
  · obtain ⟨ao, cap, rfl, _⟩ := hs.shape
    exact (pOpen_len hl).mono fun e w' ⟨h1, h2⟩ => .inr ⟨fun hh => hl hh.1, h1, by rw [← h2]; exact Below.refl _ _⟩
theorem pOpen_not {w : World} {v : Value} {l : List Int} (hs : BSl w v l) (h : ¬ sealed l) : Calls Try.prog 31 #[v] w fun e w' => e = .returned (.tuple #[.slice none 0 0, .bool false]) ∧ Below w.heap.size w w' :=
  (pOpen_any hs).mono fun e w' ho => ho.elim (fun h1 => absurd h1.1 h) fun h1 => h1.2
theorem pOpen_is {w : World} {v : Value} {l : List Int} (hs : BSl w v l) (h : sealed l) : Calls Try.prog 31 #[v] w fun e w' => ∃ v, e = .returned (.tuple #[v, .bool true]) ∧ OB w' w.heap.size v (l.take 252) ∧ Below w.heap.size w w' :=
  (pOpen_any hs).mono fun e w' ho => ho.elim (fun h1 => h1.2) fun h1 => absurd h h1.1
theorem take_len {l : List Int} (h : sealed l) : (l.take 252).length = 252 := by
  have := h.1
  rw [List.length_take]; omega

theorem ob_shape {w : World} {B : Nat} {v : Value} {c : List Int} (h : OB w B v c) (hc : c.length = 252) : ∃ gc cap, v = .slice (some ⟨gc, 0, none⟩) 252 cap ∧ ∀ j, j < 252 → w.cell? ⟨gc, j, none⟩ = some (.int .u8 (c.getD j 0)) := by
  rcases h.2.2 with ⟨_, h0⟩ | ⟨g, cap, cur, hv, hg, hh, hnc, hcm, hcs, ht⟩
  · omega
  · refine ⟨g, cap, by rw [hv, hc], fun j hj => ?_⟩
    rw [cell_of_row _ _ _ _ _ _ hh]
    have : (cur.toList.take (c.length * 1))[j]? = (c.map (Value.int .u8))[j]? := by rw [ht]
    rw [List.getElem?_take, if_pos (by omega)] at this
    simpa [List.getD_eq_getElem?_getD, hc, hj] using this

end Go.Proofs.Ytmjndpmpeidhaaa
