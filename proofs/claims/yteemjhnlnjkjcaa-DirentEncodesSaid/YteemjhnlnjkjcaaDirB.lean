/- Contracts: Formed of both sides; the law's Theirs, Ours; the reference's SameEntries. -/
import Derived.Test.YteemjhnlnjkjcaaDirA
import Derived.Test.YteemjhnlnjkjcaaMemE
namespace Go.Proofs.Yteemjhnlnjkjcaa
open Go.RowKit
set_option linter.unusedVariables false

theorem eForm_is (i : Int) (s : ByteArray) (B : Bool) (h : frmE (i, s) = B) (w : World) : Calls Try.prog 10 #[.agg #[.int .i64 i, .string s]] w fun e w' => e = .returned (.bool B) ∧ Below w.heap.size w w' := by
  have hob := below_box w (.cells #[.int .i64 i, .string s] 33)
  unfold frmE at h
  by_cases h1 : 1 ≤ i
  · by_cases h2 : i < 48
    · have hn : nameS s = B := by
        rw [← h]; show _ = (decide (1 ≤ i) && (decide (i < 48) && nameS s)); rw [decide_eq_true h1, decide_eq_true h2]; rfl
      have K := Lib.hid (fun W => eName_is s B hn W)
      clear h hn
      go_enter Try.func10, Try.ntmps10
      go_wp2_with (go_at_call 12; refine (K.out _).mono ?_; rintro e w' ⟨rfl, rfl⟩)
      go_ret
      exact ⟨rfl, hob⟩
    · have HB : Hid (false = B) := Lib.hid (by rw [← h]; show _ = (decide (1 ≤ i) && (decide (i < 48) && nameS s)); rw [decide_eq_true h1, decide_eq_false h2]; rfl)
      clear h
      go_enter Try.func10, Try.ntmps10
      go_wp2
      go_ret
      exact ⟨ret_bool HB.out, hob⟩
  · have HB : Hid (false = B) := Lib.hid (by rw [← h]; show _ = (decide (1 ≤ i) && (decide (i < 48) && nameS s)); rw [decide_eq_false h1]; rfl)
    clear h
    go_enter Try.func10, Try.ntmps10
    go_wp2
    go_ret
    exact ⟨ret_bool HB.out, hob⟩
theorem rFormE_is (i : Int) (s : ByteArray) (B : Bool) (h : frmE (i, s) = B) (w : World) : Calls Try.prog 11 #[.agg #[.int .i64 i, .string s]] w fun e w' => e = .returned (.bool B) ∧ Below w.heap.size w w' := by
  have hob := below_box w (.cells #[.int .i64 i, .string s] 34)
  unfold frmE at h
  by_cases h1 : 1 ≤ i
  · by_cases h2 : i < 48
    · have hn : nameS s = B := by
        rw [← h]; show _ = (decide (1 ≤ i) && (decide (i < 48) && nameS s)); rw [decide_eq_true h1, decide_eq_true h2]; rfl
      have K := Lib.hid (fun W => rName_is s B hn W)
      have h3 : i ≤ 47 := by omega
      clear h hn h2
      go_enter Try.func11, Try.ntmps11
      go_wp2_with (go_at_call 13; refine (K.out _).mono ?_; rintro e w' ⟨rfl, rfl⟩)
      go_ret
      exact ⟨rfl, hob⟩
    · have HB : Hid (false = B) := Lib.hid (by rw [← h]; show _ = (decide (1 ≤ i) && (decide (i < 48) && nameS s)); rw [decide_eq_true h1, decide_eq_false h2]; rfl)
      have h3 : ¬ i ≤ 47 := by omega
      clear h h2
      go_enter Try.func11, Try.ntmps11
      go_wp2
      go_ret
      exact ⟨ret_bool HB.out, hob⟩
  · have HB : Hid (false = B) := Lib.hid (by rw [← h]; show _ = (decide (1 ≤ i) && (decide (i < 48) && nameS s)); rw [decide_eq_false h1]; rfl)
    clear h
    go_enter Try.func11, Try.ntmps11
    go_wp2
    go_ret
    exact ⟨ret_bool HB.out, hob⟩
theorem take_more8 (O : List (Int × ByteArray)) (k : Nat) (hk : k < O.length) : O.take (k + 1) = O.take k ++ [O.getD k default] := by
  rw [List.take_succ_eq_append_getElem hk]
  simp [List.getD_eq_getElem?_getD, hk]
theorem theirs8_any {w : World} {v : Value} {O : List (Int × ByteArray)} (hO : O.length ≤ 1000) (hs : ESl w v O) : Calls Try.prog 8 #[v] w fun e w' => ∃ u, e = .returned u ∧ ESl w' u O ∧ Below w.heap.size w w' := by
  obtain ⟨ao, cap, rfl, hc⟩ := hs.open'
  have HTK := Lib.hid (take_more8 O)
  have HTL : Hid (O.take O.length = O) := Lib.hid List.take_length
  have HLT := Lib.hid (fun k => List.length_take (i := k) (l := O))
  obtain ⟨n, hn⟩ : ∃ n, n = O.length := ⟨_, rfl⟩
  rw [← hn] at hc hO HTK HTL HLT ⊢
  have HC := Lib.hid hc
  have u2 := Try.underlying28
  clear hs hc hn
  go_enter Try.func8, Try.ntmps8
  go_wp2
  go_loopw [3, 7] (fun u i wr => ∃ k : Nat, k ≤ n ∧ i = .int .i64 k ∧ Hid (ER wr w.heap.size 33 u (O.take k)) ∧ Below w.heap.size w wr) (fun _ i _ => n - (intOf i).toNat)
  case atStart => exact ⟨0, by omega, rfl, er_nil _ _ _, Below.refl _ _⟩
  case round =>
    obtain ⟨k, hk, rfl, HU, hbr⟩ := hrel
    by_cases hlt : k < n
    · obtain ⟨b, off, rfl, hb, hcc⟩ := HC.out (by omega)
      have hck := hcc k hlt
      have htk := HTK.out k hlt
      obtain ⟨⟨x, y⟩, hx⟩ : ∃ x, x = O.getD k default := ⟨_, rfl⟩
      rw [← hx] at hck htk
      have c1 := (hbr.cell (p := ⟨b, off + k * 2, none⟩) hb).trans hck.1
      have c2 := (hbr.cell (p := ⟨b, off + k * 2 + 1, none⟩) hb).trans hck.2
      have ek : (k : Int) < (n : Int) := by omega
      have HNX := Lib.hid htk
      have HLK : Hid ((O.take k).length ≤ 1000000) := Lib.hid (by rw [HLT.out]; omega)
      clear hx hck htk hcc
      go_wp2_with (at_builtin; refine wpList_append_ent wr x y rfl 28 33 (.tmp 10) (.tmp 15) rfl u2 infoE w.heap.size _ (O.take k) rfl HU.out HLK.out rfl hbr.size ?_; intro v7 w7 hob7 hb7)
      go_roundw
      case rel => exact ⟨k + 1, by omega, by go_num, by show ER _ _ _ _ (O.take (k + 1)); rw [HNX.out]; exact hob7, hbr.trans hb7⟩
      case measure => simp [intOf]; omega
    · obtain rfl : k = n := by omega
      have hfin := HU.out
      rw [HTL.out] at hfin
      have HF := Lib.hid hfin.sl
      clear hfin
      go_wp2
      go_ret
      exact ⟨_, rfl, HF.out, hbr⟩
theorem ours8_any {w : World} {v : Value} {O : List (Int × ByteArray)} (hO : O.length ≤ 1000) (hs : ESl w v O) : Calls Try.prog 16 #[v] w fun e w' => ∃ u, e = .returned u ∧ ESl w' u O ∧ Below w.heap.size w w' := by
  obtain ⟨ao, cap, rfl, hc⟩ := hs.open'
  have HTK := Lib.hid (take_more8 O)
  have HTL : Hid (O.take O.length = O) := Lib.hid List.take_length
  have HLT := Lib.hid (fun k => List.length_take (i := k) (l := O))
  obtain ⟨n, hn⟩ : ∃ n, n = O.length := ⟨_, rfl⟩
  rw [← hn] at hc hO HTK HTL HLT ⊢
  have HC := Lib.hid hc
  have u2 := Try.underlying22
  clear hs hc hn
  go_enter Try.func16, Try.ntmps16
  go_wp2
  go_loopw [3, 7] (fun u i wr => ∃ k : Nat, k ≤ n ∧ i = .int .i64 k ∧ Hid (ER wr w.heap.size 34 u (O.take k)) ∧ Below w.heap.size w wr) (fun _ i _ => n - (intOf i).toNat)
  case atStart => exact ⟨0, by omega, rfl, er_nil _ _ _, Below.refl _ _⟩
  case round =>
    obtain ⟨k, hk, rfl, HU, hbr⟩ := hrel
    by_cases hlt : k < n
    · obtain ⟨b, off, rfl, hb, hcc⟩ := HC.out (by omega)
      have hck := hcc k hlt
      have htk := HTK.out k hlt
      obtain ⟨⟨x, y⟩, hx⟩ : ∃ x, x = O.getD k default := ⟨_, rfl⟩
      rw [← hx] at hck htk
      have c1 := (hbr.cell (p := ⟨b, off + k * 2, none⟩) hb).trans hck.1
      have c2 := (hbr.cell (p := ⟨b, off + k * 2 + 1, none⟩) hb).trans hck.2
      have ek : (k : Int) < (n : Int) := by omega
      have HNX := Lib.hid htk
      have HLK : Hid ((O.take k).length ≤ 1000000) := Lib.hid (by rw [HLT.out]; omega)
      clear hx hck htk hcc
      go_wp2_with (at_builtin; refine wpList_append_ent wr x y rfl 22 34 (.tmp 10) (.tmp 15) rfl u2 infoRE w.heap.size _ (O.take k) rfl HU.out HLK.out rfl hbr.size ?_; intro v7 w7 hob7 hb7)
      go_roundw
      case rel => exact ⟨k + 1, by omega, by go_num, by show ER _ _ _ _ (O.take (k + 1)); rw [HNX.out]; exact hob7, hbr.trans hb7⟩
      case measure => simp [intOf]; omega
    · obtain rfl : k = n := by omega
      have hfin := HU.out
      rw [HTL.out] at hfin
      have HF := Lib.hid hfin.sl
      clear hfin
      go_wp2
      go_ret
      exact ⟨_, rfl, HF.out, hbr⟩
set_option maxHeartbeats 1000000 in
theorem rSameE_any {w : World} {v1 v2 : Value} {O : List (Int × ByteArray)} (hO : O.length ≤ 1000) (h1 : ESl w v1 O) (h2 : ESl w v2 O) :
    Calls Try.prog 15 #[v1, v2] w fun e w' => e = .returned (.bool true) ∧ ∃ m, w' = w.drewN m := by
  obtain ⟨a1, c1, rfl, k1⟩ := h1.open'
  obtain ⟨a2, c2, rfl, k2⟩ := h2.open'
  obtain ⟨n, hn⟩ : ∃ n, n = O.length := ⟨_, rfl⟩
  clear h1 h2
  rw [← hn] at k1 k2 hO ⊢
  have H1 := Lib.hid k1
  have H2 := Lib.hid k2
  clear k1 k2 hn
  go_enter Try.func15, Try.ntmps15
  go_wp2
  go_loopw [13] (fun i wr => ∃ k : Nat, k ≤ n ∧ i = .int .i64 k ∧ ∃ m, wr = w.drewN m) (fun i _ => n - (intOf i).toNat)
  case atStart => exact ⟨0, by omega, rfl, 0, rfl⟩
  case round =>
    obtain ⟨k, hk, rfl, m, rfl⟩ := hrel
    by_cases hlt : k < n
    · obtain ⟨b1, o1, rfl, _, f1⟩ := H1.out (by omega)
      obtain ⟨b2, o2, rfl, _, f2⟩ := H2.out (by omega)
      have r1 := f1 k hlt
      have r2 := f2 k hlt
      obtain ⟨⟨x, y⟩, hx⟩ : ∃ x, x = O.getD k default := ⟨_, rfl⟩
      rw [← hx] at r1 r2
      obtain ⟨c1, c2⟩ := r1
      obtain ⟨d1, d2⟩ := r2
      have ek : (k : Int) < (n : Int) := by omega
      clear f1 f2 hx
      go_wp2
      go_quiet (fail)
      go_wp2
      go_roundw
      case rel => exact ⟨k + 1, by omega, by go_num, _, rfl⟩
      case measure => simp [intOf]; omega
    · go_wp2
      go_ret
      exact ⟨rfl, m, rfl⟩
end Go.Proofs.Yteemjhnlnjkjcaa
