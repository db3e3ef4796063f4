/- Layer 3's law: a call's value, Block, awake. -/
import Derived.Test.YtibabjhehlmchaaDiskF
import Derived.Test.YtibabjhehlmchaaDiskN
namespace Go.Proofs.Ytibabjhehlmchaa
open Go.RowKit
set_option linter.unusedVariables false

/-- A value of type []bool that reads as k. -/
def KSl (w : World) (v : Value) (k : List Bool) : Prop :=
  (v = .slice none 0 0 ∧ k = []) ∨ ∃ a cap, v = .slice (some a) k.length cap ∧ ∀ j, j < k.length → a.block < w.heap.size ∧ a.spot = none ∧ w.cell? ⟨a.block, a.off + j, none⟩ = some (.bool (k.getD j false))
theorem KSl.below {w w' : World} {v : Value} {k : List Bool} (h : KSl w v k) (hb : Below w.heap.size w w') : KSl w' v k := by
  rcases h with h | ⟨a, cap, hv, hc⟩
  · exact .inl h
  · refine .inr ⟨a, cap, hv, fun j hj => ?_⟩
    obtain ⟨h1, h2, h3⟩ := hc j hj
    exact ⟨Nat.lt_of_lt_of_le h1 hb.size, h2, by rw [hb.cell (p := ⟨a.block, a.off + j, none⟩) h1, h3]⟩
theorem KSl.shape {w : World} {v : Value} {k : List Bool} (h : KSl w v k) : ∃ ao cap, v = .slice ao k.length cap := by
  rcases h with ⟨hv, hk⟩ | ⟨a, cap, hv, _⟩
  · exact ⟨none, 0, by rw [hv, hk]; rfl⟩
  · exact ⟨some a, cap, hv⟩

/-- What a call of the script says. -/
structure OpV where
  kind : Int
  n : Int
  byte : Int
  bytes : List Int
  keep : List Bool
/-- 256 bytes, all alike. -/
def repB (x : Int) : List Int := List.replicate 256 x
theorem repB_length (x : Int) : (repB x).length = 256 := List.length_replicate
/-- Its block. -/
def OpV.blk (o : OpV) : List Int := if o.bytes = [] then repB o.byte else o.bytes

def fillR (x : Int) (k M : Nat) : List Value := List.replicate k (.int .u8 x) ++ List.replicate (M - k) (.int .u8 0)
theorem fillR_length (x : Int) {k M : Nat} (h : k ≤ M) : (fillR x k M).length = M := by simp [fillR]; omega
theorem fillR_step (x : Int) {k M : Nat} (h : k < M) : (fillR x k M).set k (.int .u8 x) = fillR x (k + 1) M := by
  apply List.ext_getElem?
  intro j
  simp only [fillR, List.getElem?_set, List.length_append, List.length_replicate, List.getElem?_append, List.getElem?_replicate]
  by_cases h1 : k = j
  · subst h1; simp; omega
  · rw [if_neg h1]
    by_cases h2 : j < k
    · rw [if_pos h2, if_pos h2, if_pos (by omega), if_pos (by omega)]
    · rw [if_neg h2, if_neg (show ¬ j < k + 1 by omega)]
      by_cases h3 : j < M
      · rw [if_pos (by omega), if_pos (by omega)]
      · rw [if_neg (by omega), if_neg (by omega)]
theorem fillR_full (x : Int) (M : Nat) : fillR x M M = (List.replicate M x).map (Value.int .u8) := by simp [fillR]
theorem fillR_zero (x : Int) (M : Nat) : fillR x 0 M = List.replicate M (.int .u8 0) := by simp [fillR]

theorem byt_rep {x : Int} (h : 0 ≤ x ∧ x ≤ 255) (n : Nat) : Byt (List.replicate n x) := byt_of_mem fun y hy => by rw [List.eq_of_mem_replicate hy]; exact h

set_option maxRecDepth 100000 in
theorem opBlock3_any {w : World} (kind n x : Int) (hx : 0 ≤ x ∧ x ≤ 255) {vb vk : Value} {l : List Int} (hb : BSl w vb l) :
    Calls Try.prog 10 #[.agg #[.int .i64 kind, .int .i64 n, .int .u8 x, vb, vk]] w fun e w' => ∃ v, e = .returned v ∧ BSl w' v (if l = [] then repB x else l) ∧ Below w.heap.size w w' := by
  obtain ⟨ao, cap, rfl, hcap⟩ := hb.shape
  have h1 : Below w.heap.size w (w.alloc (.cells #[.int .i64 kind, .int .i64 n, .int .u8 x, .slice ao l.length cap, vk] 32)) := (Below.refl _ _).alloc (Nat.le_refl _) _
  by_cases hl : l = []
  · rw [if_pos hl]
    have hl0 : l.length = 0 := by rw [hl]; rfl
    obtain ⟨M, hM⟩ : ∃ M, M = 256 := ⟨_, rfl⟩
    have HM := Lib.hid hM
    have HM1 : M ≤ 200000000000000 := by omega
    have HM2 : (M : Int) = 256 := by omega
    clear hl hb hM
    obtain ⟨WB, hWB⟩ : ∃ WB, WB = w.alloc (.cells #[.int .i64 kind, .int .i64 n, .int .u8 x, .slice ao 0 cap, vk] 32) := ⟨_, rfl⟩
    rw [hl0] at h1 ⊢
    rw [← hWB] at h1
    have hbx : WB.heap[w.heap.size]? = some (.cells #[.int .i64 kind, .int .i64 n, .int .u8 x, .slice ao 0 cap, vk] 32 (0, 0)) := by rw [hWB]; exact heap_alloc_last _ _
    have hsz : WB.heap.size = w.heap.size + 1 := by rw [hWB]; simp
    have HWB := Lib.hid hWB
    clear hWB
    go_enter Try.func10, Try.ntmps10
    go_wp2_with (at_make; rw [← HWB.out]; refine wpList_make_u8 _ (by rfl) _ _ (by rfl) 256 M (by rfl) (by rfl) HM2.symm HM1 ?_; rw [hsz])
    obtain ⟨G, hG⟩ : ∃ G, G = w.heap.size + 1 := ⟨_, rfl⟩
    rw [← hG]
    obtain ⟨W0, hW0⟩ : ∃ W0, W0 = WB.alloc (.cells (Array.replicate M (.int .u8 0)) 5) := ⟨_, rfl⟩
    rw [← hW0]
    have b0 : Below w.heap.size w W0 := by rw [hW0]; exact h1.alloc (by omega) _
    have r0 : W0.heap[G]? = some (.cells (fillR x 0 M).toArray 5 (0, 0)) := by
      rw [hW0, hG, ← hsz, fillR_zero, List.toArray_replicate]; exact heap_alloc_last _ _
    have rb : W0.heap[w.heap.size]? = some (.cells #[.int .i64 kind, .int .i64 n, .int .u8 x, .slice ao 0 cap, vk] 32 (0, 0)) := by
      rw [hW0, heap_alloc_old _ _ (by omega)]; exact hbx
    have HG := Lib.hid hG
    clear hG hW0 hbx h1 hsz
    go_loopw [14] (fun i wr => ∃ k : Nat, k ≤ M ∧ i = .int .i64 k ∧ Wrote W0 wr G ∧ Hid (wr.heap[G]? = some (.cells (fillR x k M).toArray 5 (0, 0))))
      (fun i _ => M - (intOf i).toNat)
    case atStart => exact ⟨0, by omega, rfl, Wrote.refl _ _, r0⟩
    case round =>
      obtain ⟨k, hk, rfl, hwr, hrow⟩ := hrel
      by_cases hlt : k < M
      · have hlt' : (k : Int) < (M : Int) := by omega
        have cx : wr.cell? ⟨w.heap.size, 2, none⟩ = some (.int .u8 x) := by
          rw [cell_of_row _ _ _ _ _ _ (by rw [hwr.2.2.2.2 _ (by have := HG.out; omega)]; exact rb)]; rfl
        have ck : wr.cell? ⟨G, k, none⟩ = some ((fillR x k M)[k]'(by rw [fillR_length x hk]; exact hlt)) := by
          rw [cell_of_row _ _ _ _ _ _ hrow.out]; simp [fillR_length x hk, hlt]
        have fk : wr.frozen? ⟨G, k, none⟩ = false := by simp [World.frozen?, hrow.out]
        have hnx : Hid ((wr.setCell ⟨G, k, none⟩ (.int .u8 x)).heap[G]? = some (.cells (fillR x (k + 1) M).toArray 5 (0, 0))) := by
          show _ = _
          rw [heap_setCell_same wr G k _ _ _ hrow.out, ← fillR_step x hlt]; simp
        have hw2 : Wrote W0 (wr.setCell ⟨G, k, none⟩ (.int .u8 x)) G :=
          ⟨hwr.1, hwr.2.1, hwr.2.2.1, by rw [← hwr.2.2.2.1]; simp [World.setCell], fun j hj => by rw [(Wrote.setCell wr G k _).2.2.2.2 j hj]; exact hwr.2.2.2.2 j hj⟩
        clear rb r0
        go_wp2_with fail
        go_roundw
        case rel => exact ⟨k + 1, by omega, by go_num, hw2, hnx⟩
        case measure => simp [intOf]; omega
      · obtain rfl : k = M := by omega
        have hge : ¬ (k : Int) < (k : Int) := by omega
        go_wp2_with fail
        go_ret
        have hlen : (repB x).length = k := by rw [repB_length, HM.out]
        refine ⟨.slice (some ⟨G, 0, none⟩) k k, rfl, ⟨byt_rep hx _, .inr ⟨⟨G, 0, none⟩, k, by rw [hlen], by rw [hlen]; exact Nat.le_refl _, fun j hj => ⟨(Array.getElem?_eq_some_iff.1 hrow.out).1, rfl, ?_⟩⟩⟩, b0.trans (hwr.below (by have := HG.out; omega))⟩
        rw [hlen] at hj
        rw [cell_of_row _ _ _ _ _ _ hrow.out, fillR_full]
        have e : (repB x).getD j 0 = x := by
          rw [List.getD_eq_getElem?_getD, List.getElem?_eq_getElem (by rw [hlen]; exact hj)]
          exact List.eq_of_mem_replicate (List.getElem_mem _)
        rw [e]
        simp [hj]
  · rw [if_neg hl]
    have hlp : (0 : Int) < l.length := by have := List.length_pos_iff.2 hl; omega
    clear hl
    go_enter Try.func10, Try.ntmps10
    go_wp2
    go_ret
    exact ⟨_, rfl, hb.below h1, h1⟩
end Go.Proofs.Ytibabjhehlmchaa
