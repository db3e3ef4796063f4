/- The law PackBack: its walk. -/
import Derived.Test.YtnfbgefkgileiaaLawSeals
namespace Go.Proofs.Ytnfbgefkgileiaa
open Go.RowKit
set_option linter.unusedVariables false

theorem lBack_long {w : World} {ao : Option Addr} {len cap : Nat} (a b : Int) (h : 252 < len) :
    Calls Try.prog 5 #[.slice ao len cap, .int .u64 a, .int .u8 b] w fun e w' => e = .returned (.bool true) ∧ Below w.heap.size w w' := by
  go_enter Try.func5, Try.ntmps5
  go_wp2_with (first
    | (go_at_call 6; refine (awake2_any _).mono ?_; rintro e w1 ⟨rfl, hb1⟩)
    | (go_at_call 11; refine (pSeal_no h).mono ?_; rintro e w2 ⟨rfl, rfl⟩))
  go_ret
  exact ⟨by simp; omega, hb1⟩

/-- Seal's block, by its place. -/
theorem pSeal_blk {w0 w : World} {v : Value} {l : List Int} (hs : BSl w0 v l) (hb : Below w0.heap.size w0 w) (hl : l.length ≤ 252) :
    Calls Try.prog 11 #[v] w fun e w' => ∃ g cap cur, e = .returned (.tuple #[.slice (some ⟨g, 0, none⟩) 256 cap, .int .i64 0]) ∧ BSl w' (.slice (some ⟨g, 0, none⟩) 256 cap) (sealS l) ∧
      w.heap.size ≤ g ∧ 256 ≤ cap ∧ Hid (w'.heap[g]? = some (.cells cur 5 (0, 0))) ∧ Hid (cur.toList.take 256 = (sealS l).map (Value.int .u8)) ∧ Below w.heap.size w w' ∧ Below w0.heap.size w0 w' :=
  (pSeal_yes (hs.below hb) hl).mono fun e w' ⟨v', h1, h2, h3⟩ => by
    have hl2 := sealS_length l hl
    rcases h2.2.2 with ⟨_, h0⟩ | ⟨g, cap, cur, hv, hg, hh, hc, _, _, ht⟩
    · omega
    · have hB := h2.bsl
      rw [hv, hl2] at hB
      exact ⟨g, cap, cur, by rw [h1, hv, hl2], hB, hg, by omega, hh, by rw [hl2] at ht; exact ht, h3, hb.trans (h3.mono hb.size)⟩

/-- Open, of a sealed block. -/
theorem pOpen_blk {w0 w : World} {v : Value} {l : List Int} (hs : BSl w v (sealS l)) (hb : Below w0.heap.size w0 w) (hl : l.length ≤ 252) :
    Calls Try.prog 13 #[v] w fun e w' => ∃ a cap, e = .returned (.tuple #[.slice (some a) 252 cap, .bool true]) ∧ BSl w' (.slice (some a) 252 cap) (fillS l) ∧ 252 ≤ cap ∧ a.spot = none ∧ Below w.heap.size w w' ∧ Below w0.heap.size w0 w' :=
  (pOpen_any hs).mono fun e w' h => by
    have hf := fillS_length l hl
    have e1 : (sealS l).take 252 = fillS l := by rw [sealS, ← hf, List.take_left']; rfl
    rcases h with ⟨_, v', h1, h2, h3⟩ | ⟨h, _⟩
    · rw [e1] at h2
      rcases h2.2.2 with ⟨_, h0⟩ | ⟨g, cap, cur, hv, hg, hh, hc, _⟩
      · omega
      · have hB := h2.bsl
        rw [hv, hf] at hB
        exact ⟨_, cap, by rw [h1, hv, hf], hB, by omega, rfl, h3, hb.trans (h3.mono hb.size)⟩
    · exact absurd (sealed_sealS l hl) h

theorem fill_take (l : List Int) : (fillS l).take l.length = l := by simp [fillS]

theorem pOpen_e {w : World} {v : Value} {l : List Int} (hs : BSl w v l) (E : Bool) (hE : E = openE l) :
    Calls Try.prog 13 #[v] w fun e w' => ∃ v', e = .returned (.tuple #[v', .bool E]) ∧ Below w.heap.size w w' :=
  (pOpen_u hs (Below.refl _ _) _ E rfl hE).mono fun _ _ ⟨v', h1, _, h2, _⟩ => ⟨v', h1, h2⟩

theorem BSl.set {w : World} {g cap : Nat} {cur : Array Value} {l : List Int} {n : Nat} (h : BSl w (.slice (some ⟨g, 0, none⟩) n cap) l) (hn : l.length = n) (hg : w.heap[g]? = some (.cells cur 5 (0, 0))) (k : Nat) (hk : k < n) (y : Int) (hy : 0 ≤ y ∧ y ≤ 255) :
    BSl (w.setCell ⟨g, k, none⟩ (.int .u8 y)) (.slice (some ⟨g, 0, none⟩) n cap) (l.set k y) := by
  subst hn
  rcases h.2 with ⟨hv, _⟩ | ⟨a', c', hv, hc', hc⟩
  · simp at hv
  · obtain ⟨rfl, rfl⟩ : (⟨g, 0, none⟩ : Addr) = a' ∧ cap = c' := by simpa using hv
    have hg2 := heap_setCell_same w g k _ _ (.int .u8 y) hg
    refine ⟨byt_of_mem fun z hz => ?_, .inr ⟨_, cap, by rw [List.length_set], by rw [List.length_set]; exact hc', fun j hj => ?_⟩⟩
    · rcases List.mem_or_eq_of_mem_set hz with h1 | h1
      · exact byt_mem h.1 z h1
      · rw [h1]; exact hy
    · rw [List.length_set] at hj
      obtain ⟨h1, _, h3⟩ := hc j hj
      refine ⟨by simpa [World.setCell] using h1, rfl, ?_⟩
      simp only [Nat.zero_add] at h3 ⊢
      rw [cell_of_row _ _ _ _ _ _ hg] at h3
      rw [cell_of_row _ _ _ _ _ _ hg2]
      have hjc : j < cur.size := (Array.getElem?_eq_some_iff.1 h3).1
      by_cases e : k = j
      · subst e
        simp [List.getD_eq_getElem?_getD, hj, hjc]
      · rw [Array.getElem?_setIfInBounds_ne e, h3]
        simp [List.getD_eq_getElem?_getD, List.getElem?_set_ne e]

theorem open_turned (l : List Int) (hb : Byt l) (hl : l.length ≤ 252) (k : Nat) (hk : k < 256) (b : Int) (hb0 : 0 ≤ b ∧ b ≤ 255) (x : Int) (hx : x = (sealS l).getD k 0) (hxb : 0 ≤ x ∧ x ≤ 255) :
    openE ((sealS l).set k (bits BinOp.xor IntKind.u8 x b)) = (b == 0) := by
  obtain ⟨h1, h2⟩ := xor_ne x b hxb hb0
  by_cases h0 : b = 0
  · have e : (sealS l).set k (bits BinOp.xor IntKind.u8 x b) = sealS l := by
      have hkl : k < (sealS l).length := by rw [sealS_length l hl]; exact hk
      rw [h2.2 h0, hx]
      apply List.ext_getElem (by simp)
      intro j g1 g2
      rw [List.getElem_set]
      split
      · rename_i e; subst e; simp [List.getD_eq_getElem?_getD, hkl]
      · rfl
    rw [e, openE, if_pos (sealed_sealS l hl)]
    simpa using h0
  · rw [openE, if_neg (not_sealed l (byt_mem hb) hl k hk _ h1 (by rw [← hx]; exact fun e => h0 (h2.1 e)))]
    simpa using h0

theorem lBack_fit {w : World} {v : Value} {l : List Int} (hs : BSl w v l) (hl : l.length ≤ 252) (a b : Int) (ha0 : 0 ≤ a) (ha1 : a ≤ 18446744073709551615) (hb0 : 0 ≤ b) (hb1' : b ≤ 255) (k : Nat) (hk : (k : Int) = a % 256) (x : Int) (hx : x = (sealS l).getD k 0) :
    Calls Try.prog 5 #[v, .int .u64 a, .int .u8 b] w fun e w' => e = .returned (.bool true) ∧ Below w.heap.size w w' := by
  obtain ⟨ao, cap0, rfl, _⟩ := hs.shape
  have hk1 : k < 256 := by omega
  have hkn : (a % 256).toNat = k := by omega
  obtain ⟨N, hN⟩ : ∃ N, N = l.length := ⟨_, rfl⟩
  rw [← hN] at hl hs ⊢
  have HN := Lib.hid hN
  have HS := Lib.hid hs
  have HX := Lib.hid hx
  have HK := Lib.hid hk
  have HKN := Lib.hid hkn
  have HLL : Hid (l.length ≤ 252) := by rw [← hN]; exact hl
  clear hN hs hx hk hkn
  go_enter Try.func5, Try.ntmps5
  go_wp2_with (first
    | (go_at_call 6; refine (awake2_any _).mono ?_; rintro e w1 ⟨rfl, hb1⟩)
    | (go_at_call 11; refine (pSeal_blk HS.out hb1 HLL.out).mono ?_; rintro e w2 ⟨g, cap, cur, rfl, hs2, hg2, hc2, HG2, HT2, hd2, hb2⟩
       have HS2 := Lib.hid hs2; clear hs2)
    | (go_at_call 13; refine (pOpen_blk HS2.out hb2 HLL.out).mono ?_; rintro e w3 ⟨a3, cap3, rfl, hs3, hc3, ha3, hd3, hb3⟩
       have HA3 := Lib.hid ha3
       have HS3 := Lib.hid hs3
       clear hs3 ha3))
  have hcl : BSl w3 (.slice (some a3) N cap3) l := by
    have hf := fillS_length l HLL.out
    have h1 : BSl w3 (.slice (some a3) (fillS l).length cap3) (fillS l) := by rw [hf]; exact HS3.out
    have h2 := h1.take l.length (by rw [hf]; exact HLL.out)
    rw [fill_take, ← HN.out] at h2
    exact h2
  have hd : Below w.heap.size w w3 := hb3
  have hcq : ∀ n, (convert 22 9 (.slice (some a3) N cap3)).run Try.prog (w3.drewN n) = .ok (.string (strOfNums l)) (w3.drewN n) := fun n => conv_bsl (hcl.drewN n)
  have hcv : ∀ n, (convert 22 9 (.slice ao N cap0)).run Try.prog (w3.drewN n) = .ok (.string (strOfNums l)) (w3.drewN n) := fun n => conv_bsl ((HS.out.below hb3).drewN n)
  have hNc : N ≤ cap3 := by omega
  clear hcl
  have hbl : w3.heap[g]? = some (.cells cur 5 (0, 0)) := by
    rw [hd3.block g (Array.getElem?_eq_some_iff.1 HG2.out).1]; exact HG2.out
  have hxk : cur[k]? = some (.int .u8 x) := by
    have h0 := congrArg (fun L => L[k]?) HT2.out
    have hl2 := sealS_length l HLL.out
    simp only [List.getElem?_take, if_pos hk1, List.getElem?_map, Array.getElem?_toList] at h0
    rw [h0, HX.out]
    simp [List.getD_eq_getElem?_getD, show k < (sealS l).length by omega]
  have hcx : w3.cell? ⟨g, (a % 256).toNat, none⟩ = some (.int .u8 x) := by
    rw [cell_of_row _ _ _ _ _ _ hbl, HKN.out]; exact hxk
  have hfx : w3.frozen? ⟨g, (a % 256).toNat, none⟩ = false := by
    simp [World.frozen?, hbl]
  have HBL := Lib.hid hbl
  clear hbl hxk
  go_quiet (fail)
  have hxb : 0 ≤ x ∧ x ≤ 255 := by rw [HX.out]; exact HS2.out.1 k
  have hy := (xor_ne x b hxb ⟨hb0, hb1'⟩).1
  have hE := open_turned l HS.out.1 HLL.out k hk1 b ⟨hb0, hb1'⟩ x HX.out hxb
  have hw : ∀ q, BSl ((w3.drewN q).setCell ⟨g, (a % 256).toNat, none⟩ (.int .u8 (bits BinOp.xor IntKind.u8 x b))) (.slice (some ⟨g, 0, none⟩) 256 cap) ((sealS l).set k (bits BinOp.xor IntKind.u8 x b)) := fun q => by
    rw [HKN.out]
    exact BSl.set ((HS2.out.below hd3).drewN q) (sealS_length l HLL.out) HBL.out k hk1 _ hy
  have hwb : ∀ q, Below w.heap.size w ((w3.drewN q).setCell ⟨g, (a % 256).toNat, none⟩ (.int .u8 (bits BinOp.xor IntKind.u8 x b))) := fun q =>
    (below_drewN' hb3 q).setCell (p := ⟨g, (a % 256).toNat, none⟩) (by have := hb1.size; show _ ≤ g; omega) _
  have HW := Lib.hid hw
  have HWB := Lib.hid hwb
  have HE := Lib.hid hE
  clear hw hwb hE hy
  go_wp2_with (go_at_call 13; refine (pOpen_e (HW.out _) _ HE.out.symm).mono ?_; rintro e w5 ⟨v5, rfl, hb5⟩)
  go_ret
  exact ⟨by simp, (HWB.out _).trans (hb5.mono (HWB.out _).size)⟩

theorem lBack_any {w : World} {v : Value} {l : List Int} (hs : BSl w v l) (a b : Int) (ha0 : 0 ≤ a) (ha1 : a ≤ 18446744073709551615) (hb0 : 0 ≤ b) (hb1 : b ≤ 255) :
    Calls Try.prog 5 #[v, .int .u64 a, .int .u8 b] w fun e w' => e = .returned (.bool true) ∧ Below w.heap.size w w' := by
  by_cases hl : l.length ≤ 252
  · exact lBack_fit hs hl a b ha0 ha1 hb0 hb1 (a % 256).toNat (by omega) _ rfl
  · obtain ⟨ao, cap, rfl, _⟩ := hs.shape
    exact lBack_long a b (by omega)

end Go.Proofs.Ytnfbgefkgileiaa
