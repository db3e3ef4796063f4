/- Package disk: New. -/
import Derived.Test.YtibabjhehlmchaaDiskB
namespace Go.Proofs.Ytibabjhehlmchaa
open Go.RowKit
set_option linter.unusedVariables false

def zb : List Int := List.replicate 256 0
theorem zb_length : zb.length = 256 := List.length_replicate
theorem zb_blk : Blk zb := ⟨zb_length, byt_replicate 256⟩
theorem cB_zb : cB zb = List.replicate 256 (.int .u8 0) := List.map_replicate
theorem zRow_eq (n : Nat) : (List.replicate n zb).flatMap cB = List.replicate (n * 256) (Value.int .u8 0) := by
  refine List.eq_replicate_iff.2 ⟨?_, fun v hv => ?_⟩
  · rw [flat_length (s := 256) (fun x hx => by rw [List.eq_of_mem_replicate hx, cB_length, zb_length]), List.length_replicate]
  · obtain ⟨b, hb, hv⟩ := List.mem_flatMap.1 hv
    rw [List.eq_of_mem_replicate hb, cB_zb] at hv
    exact List.eq_of_mem_replicate hv
theorem made_zero (n : Nat) : madeCells zB.toArray n = (List.replicate n (Value.int .u8 0)).toArray := by
  apply Array.ext
  · simp [madeCells]
  · intro i h1 h2
    have hs : zB.toArray.size = 256 := by rw [List.size_toArray, zB_length]
    have hlt : i % zB.toArray.size < zB.toArray.size := Nat.mod_lt _ (by rw [hs]; decide)
    simp only [madeCells, Array.getElem_map, Array.getElem_range, List.getElem_toArray, List.getElem_replicate]
    rw [getElem!_pos zB.toArray _ hlt, List.getElem_toArray]
    exact List.eq_of_mem_replicate (List.getElem_mem _)
def zRow (n : Nat) : Array Value := ((List.replicate n zb).flatMap cB).toArray
theorem make_blocks (W : World) (n : Nat) (hn : n ≤ 2000) : (Instr.makeSlice 44 (.int .i64 n) (.int .i64 n)).run Try.prog W = .ok (.slice (some ⟨W.heap.size, 0, none⟩) n n) (W.alloc (.cells (zRow n) 50)) := by
  obtain ⟨i, h2, h3, h4, h5⟩ := info_parts infoB
  have hrun := run_make (P := Try.prog) W 44 50 i (.agg zB.toArray) Try.underlying44 h2 h3 .i64 .i64 n n (by omega) (by omega) (by rw [h5]; omega) (by omega)
  simp only [Int.toNat_natCast, h4] at hrun
  rw [hrun, show (Value.agg zB.toArray).cells = zB.toArray from rfl, made_zero, zRow, zRow_eq]

theorem newDsk (w : World) (n : Nat) (hn : n ≤ 2000) (bf bv : Nat) (hb : (bf = w.heap.size ∧ bv = w.heap.size + 1) ∨ (bf = w.heap.size + 1 ∧ bv = w.heap.size)) :
    Dsk (((w.alloc (.cells (zRow n) 50)).alloc (.cells (zRow n) 50)).alloc (.cells #[.slice (some ⟨bf, 0, none⟩) n n, .slice (some ⟨bv, 0, none⟩) n n, .slice none 0 0, .bool false, .int .i64 0, .bool false] 47)).drew
      w.heap.size (.pointer (some ⟨w.heap.size + 1 + 1, 0, none⟩)) (List.replicate n zb) (List.replicate n zb) [] := by
  have s1 : (w.alloc (.cells (zRow n) 50)).heap.size = w.heap.size + 1 := by simp
  have s2 : ((w.alloc (.cells (zRow n) 50)).alloc (.cells (zRow n) 50)).heap.size = w.heap.size + 1 + 1 := by simp
  have row : ∀ (o : Obj) g, g = w.heap.size ∨ g = w.heap.size + 1 → (((w.alloc (.cells (zRow n) 50)).alloc (.cells (zRow n) 50)).alloc o).heap[g]? = some (.cells (zRow n) 50 (0, 0)) := by
    rintro o g (rfl | rfl)
    · rw [heap_alloc_old _ _ (by rw [s2]; omega), heap_alloc_old _ _ (by rw [s1]; omega)]; exact heap_alloc_last _ _
    · rw [heap_alloc_old _ _ (by rw [s2]; omega), ← s1]; exact heap_alloc_last _ _
  have hlen : (List.replicate n zb).length = n := List.length_replicate
  refine ⟨w.heap.size + 1 + 1, bf, bv, .slice none 0 0, rfl, ?_⟩
  refine ⟨by omega, by omega, ?_, row _ bf (by omega), row _ bv (by omega), ⟨rfl, .inl ⟨rfl, rfl⟩⟩, ⟨by simp [Value.ownBlock], by simp [Value.ownBlock], by simp [Value.ownBlock]⟩,
    fun b hb => by rw [List.eq_of_mem_replicate hb]; exact zb_blk, fun b hb => by rw [List.eq_of_mem_replicate hb]; exact zb_blk, fun x hx => by simp at hx, rfl, by rw [hlen]; exact hn⟩
  rw [hlen, ← s2]
  exact heap_alloc_last _ _

theorem dNew_at (w : World) (n : Nat) (hn : n ≤ 2000) :
    Calls Try.prog 8 #[.int .i64 n] w fun e w' => ∃ p, e = .returned p ∧ p ≠ .pointer none ∧ Dsk w' w.heap.size p (List.replicate n zb) (List.replicate n zb) [] ∧ Below w.heap.size w w' := by
  have hmk := fun W => make_blocks W n hn
  have e1 : Max.max (n : Int) 0 = n := by omega
  have e2 : Min.min (n : Int) 2000 = n := by omega
  have e3 : ((n : Int) < 0) = False := by simp
  go_enter Try.func8, Try.ntmps8
  go_wp2_with fail
  go_region
  · go_wp2
    go_ret
    exact ⟨_, rfl, by simp, newDsk w n hn _ _ (by omega), below_drewN' ((((Below.refl _ _).alloc (Nat.le_refl _) _).alloc (by simp) _).alloc (by simp; omega) _) 1⟩
  · go_wp2
    go_ret
    exact ⟨_, rfl, by simp, newDsk w n hn _ _ (by omega), below_drewN' ((((Below.refl _ _).alloc (Nat.le_refl _) _).alloc (by simp) _).alloc (by simp; omega) _) 1⟩
end Go.Proofs.Ytibabjhehlmchaa
