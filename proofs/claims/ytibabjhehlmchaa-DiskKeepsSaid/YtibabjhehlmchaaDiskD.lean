/- Package disk: Read, Write. -/
import Derived.Test.YtibabjhehlmchaaDiskC
import Derived.Deep.RegionHeldLaw
import Derived.Deep.RegionHeld3
import Derived.Deep.AppendLies
namespace Go.Proofs.Ytibabjhehlmchaa
open Go.RowKit
set_option linter.unusedVariables false

set_option maxRecDepth 100000 in
theorem dRead_at {w : World} {B : Nat} {p : Value} {F V : List (List Int)} {U : List (Nat × List Int)} (h : Dsk w B p F V U) (n : Nat) (hn : n < V.length) :
    Calls Try.prog 13 #[p, .int .i64 n] w fun e w' => ∃ v, e = .returned (.tuple #[v, .int .i64 0]) ∧ BSl w' v V[n] ∧ Below w.heap.size w w' := by
  obtain ⟨bp, bf, bv, u, rfl, h⟩ := h
  have hlen : Try.prog.arrayLen 50 = 256 := by kernel_rfl
  have hblk : Blk V[n] := h.okV _ (List.getElem_mem _)
  have hmem := range_row h.hv (o := n * 256) (vs := cB V[n]) (by rw [cB_length, hblk.1]; exact flat_get (flatB_len h.okV) n hn)
  obtain ⟨b, hb⟩ : ∃ b, b = V[n] := ⟨_, rfl⟩
  rw [← hb] at hblk hmem ⊢
  have HL : Hid ((cB b).length = 256) := by show _ = _; rw [cB_length, hblk.1]
  have HR := Lib.hid hmem
  have HB := Lib.hid hblk
  have HZ := Lib.hid zB_length
  have HV := Lib.hid h.hv
  have hone : ∀ v ∈ zB, v.oneCell' = true := fun v hv => by rw [List.eq_of_mem_replicate hv]; rfl
  have c1 := h.c1
  have c5 := h.c5
  have hd : decide (0 ≤ (n : Int) ∧ (n : Int) < V.length) = true := decide_eq_true (by omega)
  have hn' : (n : Int) < V.length := by omega
  clear hb hblk hmem
  go_enter Try.func13, Try.ntmps13
  go_wp2_with (first
    | (go_at_call 26; refine (dHas_at h n).mono ?_; rintro e w' ⟨rfl, rfl⟩; rw [hd])
    | with_reducible refine wpList_allocB _ rfl rfl ?_
    | (refine wpList_loadB _ rfl _ (by rfl) bv (n * 256) (cB b) (by rfl) HR.out HL.out ?_)
    | (refine wpList_storeB _ rfl _ _ (by rfl) _ 50 zB (cB b) (by rfl) (by rfl) (heap_alloc_last _ _) HZ.out HL.out (cB_one b) ?_
       rw [World.setRow_alloc_new]))
  go_ret2
  refine ⟨_, rfl, ⟨HB.out.2, .inr ⟨_, 256, by rw [HB.out.1]; rfl, by rw [HB.out.1]; exact Nat.le_refl _, fun j hj => ⟨by simp, rfl, ?_⟩⟩⟩, (Below.refl _ _).alloc (Nat.le_refl _) _⟩
  show (w.alloc (.cells (cB b).toArray 50)).cell? ⟨w.heap.size, 0 + j, none⟩ = _
  rw [cell_of_row _ _ _ _ _ _ (heap_alloc_last w _)]
  simp [cB, List.getD_eq_getElem?_getD, hj]
end Go.Proofs.Ytibabjhehlmchaa
