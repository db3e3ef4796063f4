/- Contracts of package pack and of the reference: Seal, Open. -/
import Derived.Test.YtmjndpmpeidhaaaPackB
import Derived.Test.YtmjndpmpeidhaaaMemZ
namespace Go.Proofs.Ytmjndpmpeidhaaa
open Go.RowKit
set_option linter.unusedVariables false

theorem pSeal_no {w : World} {ao : Option Addr} {len cap : Nat} (h : 252 < len) :
    Calls Try.prog 27 #[.slice ao len cap] w fun e w' => e = .returned (.tuple #[.slice none 0 0, .int .i64 1]) ∧ w = w' := by
  go_enter Try.func27, Try.ntmps27
  go_wp2_with fail
  go_ret2
  exact ⟨rfl, rfl⟩
theorem rSeal_no {w : World} {ao : Option Addr} {len cap : Nat} (h : 252 < len) :
    Calls Try.prog 20 #[.slice ao len cap] w fun e w' => e = .returned (.tuple #[.slice none 0 0, .int .i64 1]) ∧ w = w' := by
  go_enter Try.func20, Try.ntmps20
  go_wp2_with fail
  go_ret2
  exact ⟨rfl, rfl⟩

/-- What Seal hands back when the content fits. -/
def SealOut (l : List Int) (w : World) (e : Ending) (w' : World) : Prop :=
  ∃ v, e = .returned (.tuple #[v, .int .i64 0]) ∧ OB w' w.heap.size v (sealS l) ∧ Below w.heap.size w w'

theorem pSum_c {w0 w : World} {v : Value} {l : List Int} (hs : BSl w0 v l) (hk : Below w0.heap.size w0 w) (hl : l.length ≤ 140737488355300) (S : Int) (hS : S = sumS l) :
    Calls Try.prog 35 #[v] w fun e w' => e = .returned (.int .u32 S) ∧ w = w' := by rw [hS]; exact pSum_any (hs.below hk) hl
theorem pPut4 {w : World} {v : Value} {l : List Int} (hs : BSl w v l) (hl : l.length = 252) (S : Int) (hS : S = sumS l) :
    Calls Try.prog 26 #[v, .int .u64 S, .int .i64 4] w (NewB w (l ++ lowB (sumS l) 4)) := by
  have hb := sumS_bound l
  rw [hS]
  exact pPut_at hs (by omega) _ 4 4 (by omega) (by omega) rfl hb.1 (by omega)
theorem rPut4 {w : World} {v : Value} {l : List Int} (hs : BSl w v l) (hl : l.length = 252) (S : Int) (hS : S = sumS l) :
    Calls Try.prog 19 #[v, .int .u64 S, .int .i64 4] w (NewB w (l ++ lowB (sumS l) 4)) := by
  have hb := sumS_bound l
  rw [hS]
  exact rPut_at hs (by omega) _ 4 4 (by omega) (by omega) rfl hb.1 (by omega)

theorem pSeal_yes {w : World} {v : Value} {l : List Int} (hs : BSl w v l) (hl : l.length ≤ 252) : Calls Try.prog 27 #[v] w (SealOut l w) := by
  obtain ⟨ao, cap, rfl, hcap⟩ := hs.shape
  obtain ⟨M, hMM⟩ : ∃ M : Nat, M = 252 := ⟨_, rfl⟩
  have hMI : (252 : Int) = (M : Int) := by omega
  have hby := hs.1
  have hpos := src_cells hs (w1 := w.alloc (.cells (Array.replicate M (.int .u8 0)) 5)) (fun p hp => World.cell?_alloc_lt w _ p hp) l.length
  rw [List.take_length] at hpos
  have hf1 := fillS_length l hl
  obtain ⟨F, hF⟩ : ∃ F, F = fillS l := ⟨_, rfl⟩
  obtain ⟨S, hS⟩ : ∃ S, S = sumS F := ⟨_, rfl⟩
  have hSb := sumS_bound F
  rw [← hS] at hSb
  have hFs : sealS l = F ++ lowB (sumS F) 4 := by rw [hF]; rfl
  rw [← hF] at hf1
  obtain ⟨N, hN⟩ : ∃ N, N = l.length := ⟨_, rfl⟩
  rw [← hN] at hl hcap ⊢
  have hg2 : (w.alloc (.cells (Array.replicate M (.int .u8 0)) 5)).heap[w.heap.size]? = some (.cells (List.replicate M (Value.int .u8 0)).toArray 5 (0, 0)) := by
    rw [heap_alloc_new]; simp
  have hcl : (l.map (Value.int .u8)).length = N := by rw [List.length_map, ← hN]
  have hmm : N = Nat.min N M := (Nat.min_eq_left (by omega)).symm
  have hfit : 0 + (l.map (Value.int .u8)).length ≤ (List.replicate M (Value.int .u8 0)).length := by rw [List.length_map, ← hN, hMM]; rw [List.length_replicate]; omega
  have HN := Lib.hid hN
  have HMM := Lib.hid hMM
  have HMI := Lib.hid hMI
  have hMle : M ≤ 200000000000000 := by omega
  have hNM : N ≤ M := by omega
  have HG := Lib.hid hg2
  have HC := Lib.hid hcl
  have HM := Lib.hid hmm
  have HF := Lib.hid hfit
  have HP := Lib.hid hpos
  have HBY := Lib.hid hby
  have HFF := Lib.hid hF
  have HSS := Lib.hid hS
  have HF1 := Lib.hid hf1
  have HFS := Lib.hid hFs
  have hbl : Below w.heap.size w (w.alloc (.cells (Array.replicate M (.int .u8 0)) 5)) := (Below.refl _ _).alloc (Nat.le_refl _) _
  clear hN hg2 hcl hmm hfit hpos hby hs hF hS hf1 hFs hMM hMI
  go_enter Try.func27, Try.ntmps27
  go_wp2_with (first
    | (at_make; refine wpList_make_u8 _ rfl _ _ rfl _ M rfl rfl HMI.out hMle ?_)
    | (with_reducible refine wpList_copy_wrote rfl _ _ 40 40 rfl 5 Try.underlying40 (by kernel_rfl) _ _ _ _ _ _ rfl rfl w.heap.size 0 (List.replicate M (Value.int .u8 0)) 5 HG.out (l.map (Value.int .u8)) N HC.out HM.out (fun h => ⟨rfl, HP.out h⟩) HF.out (ints_oneCell _ _) ?_
       intro w2 HG3 HW2
       have hb2 : Below w.heap.size w w2 := hbl.trans (HW2.below (Nat.le_refl _))
       have hob : OB w2 w.heap.size (.slice (some ⟨w.heap.size, 0, none⟩) M M) F := by
         have h3 := HG3.out
         have h4 : splice (List.replicate M (Value.int .u8 0)) 0 (l.map (Value.int .u8)) = F.map (Value.int .u8) ++ [] := by
           rw [HFF.out, fillS, HMM.out.symm]; simp [splice, ← HN.out]
         rw [h4] at h3
         have h5 := OB.of_heap (cap := M) (rest := []) (l := F) (B := w.heap.size) (by rw [HFF.out]; exact byt_append HBY.out (byt_replicate _)) (Nat.le_refl _) h3 (by rw [HF1.out, HMM.out]; rfl) (by rw [HMM.out]; decide)
         rw [HF1.out, ← HMM.out] at h5; exact h5
       clear HG3 HW2)
    | (go_at_call 35; refine (pSum_c hob.bsl (Below.refl _ _) (by rw [HF1.out]; omega) S HSS.out).mono ?_; rintro e w' ⟨rfl, rfl⟩)
    | (go_at_call 26; refine (pPut4 hob.bsl HF1.out S HSS.out).mono ?_; rintro e w3 ⟨v3, rfl, hob3, hb3⟩))
  go_ret2
  refine ⟨v3, rfl, ?_, hb2.trans (hb3.mono hb2.size)⟩
  rw [HFS.out]; exact hob3.more hb2.size

theorem rSeal_yes {w : World} {v : Value} {l : List Int} (hs : BSl w v l) (hl : l.length ≤ 252) : Calls Try.prog 20 #[v] w (SealOut l w) := by
  obtain ⟨ao, cap, hv, hcap⟩ := hs.shape
  have hf1 := fillS_length l hl
  obtain ⟨F, hF⟩ : ∃ F, F = fillS l := ⟨_, rfl⟩
  obtain ⟨S, hS⟩ : ∃ S, S = sumS F := ⟨_, rfl⟩
  have hSb := sumS_bound F
  rw [← hS] at hSb
  have hFs : sealS l = F ++ lowB (sumS F) 4 := by rw [hF]; rfl
  rw [← hF] at hf1
  have hlen : ([] : List Int).length + l.length ≤ 140737488355328 := by simp; omega
  obtain ⟨N, hN⟩ : ∃ N, N = l.length := ⟨_, rfl⟩
  rw [← hN] at hl hv
  subst hv
  have HN := Lib.hid hN
  have HS := Lib.hid hs
  have HL := Lib.hid hlen
  have HFF := Lib.hid hF
  have HSS := Lib.hid hS
  have HF1 := Lib.hid hf1
  have HFS := Lib.hid hFs
  have hsub : (252 : Int) - N = ((252 - N : Nat) : Int) := by omega
  have HSU := Lib.hid hsub
  clear hN hs hF hS hf1 hFs hlen hsub
  go_enter Try.func20, Try.ntmps20
  go_wp2_with (first
    | (at_builtin; (refine wpList_append_bytes _ rfl (.tmp 8) (.tmp 9) rfl w.heap.size _ [] rfl (ob_empty w) w _ l rfl HS.out (fun p hp => World.cell?_alloc_lt w _ p hp) HL.out (by simp) ?_); intro v2 w2 hob2 hb2 _; rw [List.nil_append] at hob2
       have hbe : Below w.heap.size w w2 := ((Below.refl _ _).alloc (Nat.le_refl _) _).trans hb2)
    | (at_builtin; (refine wpList_append_zeros _ rfl (.tmp 10) (.tmp 13) rfl w.heap.size _ l rfl hob2 _ (252 - N) rfl HSU.out (by rw [← HN.out]; omega) hbe.size ?_); intro v3 w3 hob3 hb3
       have hbf : Below w.heap.size w w3 := hbe.trans hb3
       rw [HN.out, show l ++ List.replicate (252 - l.length) 0 = fillS l from rfl, ← HFF.out] at hob3)
    | (go_at_call 29; refine (rSum_any hob3.bsl (by rw [HF1.out]; omega)).mono ?_; rw [← HSS.out]; rintro e w' ⟨rfl, rfl⟩)
    | (go_at_call 19; refine (rPut4 hob3.bsl HF1.out S HSS.out).mono ?_; rintro e w4 ⟨v4, rfl, hob4, hb4⟩))
  go_ret2
  refine ⟨v4, rfl, ?_, hbf.trans (hb4.mono hbf.size)⟩
  rw [HFS.out]; exact hob4.more hbf.size

end Go.Proofs.Ytmjndpmpeidhaaa
