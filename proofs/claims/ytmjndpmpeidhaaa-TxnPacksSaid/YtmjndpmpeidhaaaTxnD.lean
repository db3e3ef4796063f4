/- Contracts of package txn: head, end. -/
import Derived.Test.YtmjndpmpeidhaaaTxnC
import Derived.Test.YtmjndpmpeidhaaaPackC
import Derived.Lib.SlBytesConst
namespace Go.Proofs.Ytmjndpmpeidhaaa
open Go.RowKit
set_option linter.unusedVariables false

theorem bsl_lit9 (w : World) (l : List Int) (hb : Byt l) (n : Nat) (hn : l.length = n) (C : Array Value) (hC : C = (l.map (Value.int .u8)).toArray) (fz : Nat × Nat) : BSl (w.alloc (.cells C 5 fz)) (.slice (some ⟨w.heap.size, 0, none⟩) n n) l := by
  subst hC hn
  have hh : (w.alloc (.cells (l.map (Value.int .u8)).toArray 5 fz)).heap[w.heap.size]? = some (.cells (l.map (Value.int .u8)).toArray 5 fz) := by
    show (w.heap.push _)[w.heap.size]? = _
    simp
  refine ⟨hb, .inr ⟨⟨w.heap.size, 0, none⟩, l.length, rfl, Nat.le_refl _, fun j hj => ⟨by simp, rfl, ?_⟩⟩⟩
  show (w.alloc _).cell? ⟨w.heap.size, 0 + j, none⟩ = _
  rw [Nat.zero_add, cell_of_row _ _ _ _ _ _ hh]
  simp [hj, List.getD_eq_getElem?_getD]
theorem bsl_jrnl (w : World) : BSl (w.alloc (.cells #[.int .u8 106, .int .u8 114, .int .u8 110, .int .u8 108] 5 (4, 5))) (.slice (some ⟨w.heap.size, 0, none⟩) 4 4) jrnl :=
  bsl_lit9 w jrnl byt_jrnl 4 rfl _ rfl _
theorem bsl_done (w : World) : BSl (w.alloc (.cells #[.int .u8 100, .int .u8 111, .int .u8 110, .int .u8 101] 5 (4, 5))) (.slice (some ⟨w.heap.size, 0, none⟩) 4 4) done9 :=
  bsl_lit9 w done9 byt_done 4 rfl _ rfl _
theorem below_boxF (w : World) (C : Array Value) (T : TypeId) (fz : Nat × Nat) : Below w.heap.size w (w.alloc (.cells C T fz)) := below_box w _

/-- The head's content as far as k numbers are laid. -/
def headK (q : Int) (N : List Int) (k : Nat) : List Int := jrnl ++ lowB q 4 ++ lowB (N.length : Int) 2 ++ numL (N.take k)
theorem headK_full (q : Int) (N : List Int) : headK q N N.length = headL q N := by unfold headK headL; rw [List.take_length]
theorem headK_succ (q : Int) (N : List Int) (k : Nat) (hk : k < N.length) : headK q N k ++ lowB (N.getD k 0) 2 = headK q N (k + 1) := by
  unfold headK
  rw [numL_take N k hk, List.append_assoc]
theorem headK_zero (q : Int) (N : List Int) : headK q N 0 = jrnl ++ lowB q 4 ++ lowB (N.length : Int) 2 := by
  unfold headK
  rw [List.take_zero]
  show _ ++ [] = _
  rw [List.append_nil]
theorem headK_length (q : Int) (N : List Int) (k : Nat) (h : k ≤ 37) : (headK q N k).length ≤ 252 := by
  unfold headK
  simp only [List.length_append, lowB_length, numL_length, List.length_take]
  have : jrnl.length = 4 := rfl
  omega

theorem tHead_of {w : World} {v : Value} {q : Int} {N : List Int} (hs : ISl w v N) (h37 : N.length ≤ 37) (hx : ∀ i, i < N.length → 0 ≤ N.getD i 0 ∧ N.getD i 0 ≤ 767) (q0 : 0 ≤ q) (q1 : q < 4294967296) :
    Calls Try.prog 16 #[.int .u32 q, v] w (NewB w (sealS (headL q N))) := by
  obtain ⟨ao, cap, rfl, hc⟩ := hs.open'
  have HZ := Lib.hid (headK_zero q N)
  have HS := Lib.hid (headK_succ q N)
  have HF := Lib.hid (headK_full q N)
  have HLN := Lib.hid (headK_length q N)
  have HX := Lib.hid hx
  obtain ⟨n, hn⟩ : ∃ n, n = N.length := ⟨_, rfl⟩
  rw [← hn] at hc h37 HZ HS HF HX ⊢
  have HC := Lib.hid hc
  have kc := fun (w : World) (C : Array Value) (n c : Nat) => Lib.run_convert_bytes_const (P := Try.prog) w 40 5 C n c Try.underlying40 Try.underlying5
  have hwq : IntKind.u64.wrap q = q := IntWalk.u64_in _ (by omega)
  have hwn : IntKind.u64.wrap (n : Int) = (n : Int) := IntWalk.u64_in _ (by omega)
  have K1 := Lib.hid (pPut_at (bsl_jrnl w) (by decide) q 4 4 (by omega) (by omega) rfl q0 (by omega))
  have K2 := Lib.hid (fun W v (hv : BSl W v (jrnl ++ lowB q 4)) => pPut_at hv (by rw [List.length_append, lowB_length]; decide) (n : Int) 2 2 (by omega) (by omega) rfl (by omega) (by omega))
  have hb1 := below_boxF w #[.int .u8 106, .int .u8 114, .int .u8 110, .int .u8 108] 5 (4, 5)
  clear hs hc hx hn q1 q0
  go_enter Try.func16, Try.ntmps16
  go_wp2_with (first
    | (go_at_call 26; (with_reducible refine K1.out.mono ?_); rintro e w2 ⟨v2, rfl, hob2, hb2⟩
       have HB2 := Lib.hid (hb1.trans (hb2.mono hb1.size)))
    | (go_at_call 26; (with_reducible refine (K2.out _ _ hob2.bsl).mono ?_); rintro e w3 ⟨v3, rfl, hob3, hb3⟩
       have HB3 := Lib.hid (HB2.out.trans (hb3.mono HB2.out.size))))
  have HV3 : Hid (BSl w3 v3 (headK q N 0)) := Lib.hid (by rw [HZ.out]; exact hob3.bsl)
  clear hob2 hob3 hb1 hb2 hb3 kc
  go_loopw [5, 22] (fun u i wr => ∃ k : Nat, k ≤ n ∧ i = .int .i64 k ∧ Hid (BSl wr u (headK q N k)) ∧ Hid (Below w.heap.size w wr)) (fun _ i _ => n - (intOf i).toNat)
  case atStart => exact ⟨0, by omega, rfl, HV3, HB3⟩
  case round =>
    obtain ⟨k, hk, rfl, HV, HB⟩ := hrel
    clear HV3 HB3
    by_cases hlt : k < n
    · obtain ⟨b, off, rfl, hb, hcc⟩ := HC.out (by omega)
      have hck := (HB.out.cell (p := ⟨b, off + k, none⟩) hb).trans (hcc k hlt)
      obtain ⟨x0, x1⟩ := HX.out k hlt
      have hs1 := HS.out k hlt
      obtain ⟨x, hxx⟩ : ∃ x, x = N.getD k 0 := ⟨_, rfl⟩
      rw [← hxx] at hck x0 x1 hs1
      have HS1 := Lib.hid hs1
      have ek : (k : Int) < (n : Int) := by omega
      have hwx : IntKind.u64.wrap x = x := IntWalk.u64_in _ (by omega)
      have KP := Lib.hid (pPut_at HV.out (by have := HLN.out k (by omega); omega) x 2 2 (by omega) (by omega) rfl x0 (by omega))
      clear hcc hb hxx hs1
      go_wp2_with (go_at_call 26; (with_reducible refine KP.out.mono ?_); rintro e w4 ⟨v4, rfl, hob4, hb4⟩)
      go_roundw
      case rel => exact ⟨k + 1, by omega, by go_num, by show BSl _ _ _; rw [← HS1.out]; exact hob4.bsl, HB.out.trans (hb4.mono HB.out.size)⟩
      case measure => simp [intOf]; omega
    · obtain rfl : k = n := by omega
      have KS := Lib.hid (pSeal_yes HV.out (HLN.out k (by omega)))
      go_wp2_with (go_at_call 27; (with_reducible refine KS.out.mono ?_); rintro e w5 ⟨v5, rfl, hob5, hb5⟩)
      go_ret
      refine ⟨_, rfl, ?_, HB.out.trans (hb5.mono HB.out.size)⟩
      rw [← HF.out]
      exact hob5.more HB.out.size
theorem tEnd_of (w : World) {q : Int} (q0 : 0 ≤ q) (q1 : q < 4294967296) : Calls Try.prog 18 #[.int .u32 q] w (NewB w (sealS (endL q))) := by
  have kc := fun (w : World) (C : Array Value) (n c : Nat) => Lib.run_convert_bytes_const (P := Try.prog) w 40 5 C n c Try.underlying40 Try.underlying5
  have hwq : IntKind.u64.wrap q = q := IntWalk.u64_in _ (by omega)
  have K1 := Lib.hid (pPut_at (bsl_done w) (by decide) q 4 4 (by omega) (by omega) rfl q0 (by omega))
  have K2 := Lib.hid (fun W v (hv : BSl W v (done9 ++ lowB q 4)) => pSeal_yes hv (by rw [List.length_append, lowB_length]; decide))
  have hb1 := below_boxF w #[.int .u8 100, .int .u8 111, .int .u8 110, .int .u8 101] 5 (4, 5)
  clear q1 q0
  go_enter Try.func18, Try.ntmps18
  go_wp2_with (first
    | (go_at_call 26; (with_reducible refine K1.out.mono ?_); rintro e w2 ⟨v2, rfl, hob2, hb2⟩
       have HB2 := Lib.hid (hb1.trans (hb2.mono hb1.size)))
    | (go_at_call 27; (with_reducible refine (K2.out _ _ hob2.bsl).mono ?_); rintro e w3 ⟨v3, rfl, hob3, hb3⟩))
  go_ret
  exact ⟨_, rfl, hob3.more HB2.out.size, HB2.out.trans (hb3.mono HB2.out.size)⟩
end Go.Proofs.Ytmjndpmpeidhaaa
