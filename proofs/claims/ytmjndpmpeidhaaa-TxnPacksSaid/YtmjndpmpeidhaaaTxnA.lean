/- Contracts of package txn: formedNumbers, wholeBlocks, Formed. -/
import Derived.Test.YtmjndpmpeidhaaaTxnN
namespace Go.Proofs.Ytmjndpmpeidhaaa
open Go.RowKit
set_option linter.unusedVariables false

/-- A []int that reads as l, its capacity told. -/
def ISc (w : World) (v : Value) (l : List Int) : Prop := ISl w v l ∧ ∃ ao cap, v = .slice ao l.length cap ∧ l.length ≤ cap
theorem ISc.below {w w' : World} {v : Value} {l : List Int} (h : ISc w v l) (hb : Below w.heap.size w w') : ISc w' v l := ⟨h.1.below hb, h.2⟩
theorem isc_nil (w : World) : ISc w (.slice none 0 0) [] := ⟨isl_nil w, none, 0, rfl, Nat.le_refl _⟩
theorem IR.isc {w : World} {B : Nat} {v : Value} {l : List Int} (h : IR w B v l) : ISc w v l := by
  refine ⟨h.sl, ?_⟩
  rcases h.2 with ⟨hv, hl⟩ | ⟨g, cap, cur, hv, hg, hh, hnc, _⟩
  · exact ⟨none, 0, by rw [hv, hl], by omega⟩
  · exact ⟨_, cap, hv, hnc⟩
theorem ISl.take {w : World} {a : Addr} {cap : Nat} {l : List Int} (h : ISl w (.slice (some a) l.length cap) l) (n : Nat) (hn : n ≤ l.length) : ISl w (.slice (some a) n cap) (l.take n) := by
  rcases h with ⟨hv, _⟩ | ⟨a', c', hv, hc⟩
  · simp at hv
  · obtain ⟨rfl, rfl⟩ : a = a' ∧ cap = c' := ⟨Option.some.inj (Value.slice.inj hv).1, (Value.slice.inj hv).2.2⟩
    have hl : (l.take n).length = n := by rw [List.length_take]; omega
    refine .inr ⟨a, cap, by rw [hl], fun j hj => ?_⟩
    rw [hl] at hj
    obtain ⟨h1, h2, h3⟩ := hc j (by omega)
    refine ⟨h1, h2, ?_⟩
    rw [h3]
    simp [List.getD_eq_getElem?_getD, hj]
theorem tFormN_of {w : World} {v : Value} {l : List Int} (hs : ISc w v l) : Calls Try.prog 21 #[v] w fun e w' => e = .returned (.bool (frmNs l)) ∧ w = w' := by
  obtain ⟨h1, ao, cap, rfl, hcap⟩ := hs
  obtain ⟨ao', cap', hv, hc⟩ := h1.open'
  obtain ⟨rfl, rfl⟩ : ao = ao' ∧ cap = cap' := ⟨(Value.slice.inj hv).1, (Value.slice.inj hv).2.2⟩
  by_cases h37 : l.length ≤ 37
  · have hno := fun k hk h => frmNs_no (N := l) k hk h
    have hyes := frmNs_yes h37
    obtain ⟨R, hR⟩ : ∃ R, R = frmNs l := ⟨_, rfl⟩
    have htk := fun (a : Addr) (h : ao = some a) n hn => ISl.take (w := w) (a := a) (cap := cap) (l := l) (by rw [← h]; exact h1) n hn
    have hnt := fun i => newT_has l i
    have HTL := Lib.hid (fun n : Nat => (List.length_take (i := n) (l := l)))
    rw [← hR] at hno hyes ⊢
    obtain ⟨N, hN⟩ : ∃ N, N = l.length := ⟨_, rfl⟩
    rw [← hN] at hc hno hyes h37 hcap htk HTL ⊢
    have HC := Lib.hid hc
    have HNO := Lib.hid hno
    have HYE := Lib.hid hyes
    have HTK := Lib.hid htk
    have HNT := Lib.hid hnt
    have hle : ¬ 37 < (N : Int) := by omega
    clear hc hno hyes hR h1 hN hv htk hnt
    go_enter Try.func21, Try.ntmps21
    go_wp2
    go_loop [10] (fun i => ∃ k : Nat, k ≤ N ∧ i = .int .i64 k ∧ Hid (∀ j, j < k → okN l j = true)) (fun i => N - (intOf i).toNat)
    case atStart => exact ⟨0, by omega, rfl, fun j hj => absurd hj (Nat.not_lt_zero _)⟩
    case round =>
      obtain ⟨k, hk, rfl, HK⟩ := hrel
      by_cases hlt : k < N
      · obtain ⟨b, off, rfl, _, hcc⟩ := HC.out (by omega)
        have hck := hcc k hlt
        have hn1 := HNO.out k hlt
        have hok : okN l k = (inP9 (l.getD k 0) && !(hasI (l.take k) (l.getD k 0))) := by unfold okN; rw [HNT.out]
        have htk := HTK.out _ rfl k (by omega)
        have htl : (l.take k).length ≤ 1000000 := by rw [HTL.out]; omega
        obtain ⟨x, hx⟩ : ∃ x, x = l.getD k 0 := ⟨_, rfl⟩
        rw [← hx] at hck hok
        have KH := Lib.hid (fun B hB => slCont_is htk htl x B hB)
        have HOK := Lib.hid hok
        have HN1 := Lib.hid hn1
        have ek : (k : Int) < (N : Int) := by omega
        have ek2 : (k : Int) ≤ (cap : Int) := by omega
        have ek3 : k ≤ cap := by omega
        clear hx hcc hn1 hok htk htl
        by_cases hlo : x < 0
        · have hR := HN1.out (by rw [HOK.out]; unfold inP9; rw [decide_eq_false (by omega)]; rfl)
          subst hR
          go_wp2
          go_ret
          exact ⟨rfl, rfl⟩
        · by_cases hhi : 767 < x
          · have hR := HN1.out (by rw [HOK.out]; unfold inP9; rw [decide_eq_false (by omega)]; rfl)
            subst hR
            go_wp2
            go_ret
            exact ⟨rfl, rfl⟩
          · have hin : inP9 x = true := decide_eq_true (by omega)
            rw [hin, Bool.true_and] at HOK
            obtain ⟨B, hB⟩ : ∃ B, hasI (l.take k) x = B := ⟨_, rfl⟩
            have KB := Lib.hid (KH.out B hB)
            rw [hB] at HOK
            have h01 : ¬ x > 767 := by omega
            clear hB hin KH
            cases B
            · go_wp2_with (go_at_call 30; (with_reducible refine KB.out.mono ?_); rintro e w2 ⟨rfl, rfl⟩)
              go_round
              case rel =>
                refine ⟨k + 1, by omega, by go_num, fun j hj => ?_⟩
                by_cases e : j = k
                · subst e; exact HOK.out
                · exact HK.out j (by omega)
              case measure => simp [intOf]; omega
            · have hR := HN1.out HOK.out
              subst hR
              go_wp2_with (go_at_call 30; (with_reducible refine KB.out.mono ?_); rintro e w2 ⟨rfl, rfl⟩)
              go_ret
              exact ⟨rfl, rfl⟩
      · obtain rfl : k = N := by omega
        have hR := HYE.out HK.out
        subst hR
        go_wp2
        go_ret
        exact ⟨rfl, rfl⟩
  · rw [frmNs_long (by omega)]
    obtain ⟨N, hN⟩ : ∃ N, N = l.length := ⟨_, rfl⟩
    rw [← hN] at h37 ⊢
    have hle : 37 < (N : Int) := by omega
    clear hc h1 hv hN
    go_enter Try.func21, Try.ntmps21
    go_wp2
    go_ret
    exact ⟨rfl, rfl⟩
theorem tWhole_of {w : World} {v : Value} {L : List (List Int)} (hs : BBSl w v L) (hL : L.length ≤ 1000000) : Calls Try.prog 22 #[v] w fun e w' => e = .returned (.bool (whole L)) ∧ w = w' := by
  obtain ⟨ao, cap, rfl, _, hc⟩ := hs.open'
  have hno := fun k hk h => whole_no (D := L) k hk h
  have hyes := (whole_iff L).2
  obtain ⟨R, hR⟩ : ∃ R, R = whole L := ⟨_, rfl⟩
  rw [← hR] at hno hyes ⊢
  obtain ⟨N, hN⟩ : ∃ N, N = L.length := ⟨_, rfl⟩
  rw [← hN] at hc hno hyes hL ⊢
  have HC := Lib.hid hc
  have HNO := Lib.hid hno
  have HYE := Lib.hid hyes
  clear hc hno hyes hR hs hN
  go_enter Try.func22, Try.ntmps22
  go_wp2
  go_loop [7] (fun i => ∃ k : Nat, k ≤ N ∧ i = .int .i64 k ∧ Hid (∀ j, j < k → (L.getD j []).length = 256)) (fun i => N - (intOf i).toNat)
  case atStart => exact ⟨0, by omega, rfl, fun j hj => absurd hj (Nat.not_lt_zero _)⟩
  case round =>
    obtain ⟨k, hk, rfl, HK⟩ := hrel
    by_cases hlt : k < N
    · obtain ⟨b, off, rfl, _, hcc⟩ := HC.out (by omega)
      obtain ⟨u, hck, hu⟩ := hcc k hlt
      have hn1 := HNO.out k hlt
      obtain ⟨uo, uc, rfl, _⟩ := hu.shape
      obtain ⟨x, hx⟩ : ∃ x, x = (L.getD k []).length := ⟨_, rfl⟩
      rw [← hx] at hck hn1
      have HX := Lib.hid hx
      have HN1 := Lib.hid hn1
      have ek : (k : Int) < (N : Int) := by omega
      clear hx hcc hn1 hu
      by_cases hf : x = 256
      · subst hf
        go_wp2
        go_round
        case rel =>
          refine ⟨k + 1, by omega, by go_num, fun j hj => ?_⟩
          by_cases e : j = k
          · subst e; exact HX.out.symm
          · exact HK.out j (by omega)
        case measure => simp [intOf]; omega
      · have hR := HN1.out hf
        subst hR
        have hfi : ¬ (x : Int) = 256 := by omega
        have hne : ((x : Int) != 256) = true := by simp; omega
        go_wp2
        go_ret
        exact ⟨rfl, rfl⟩
    · obtain rfl : k = N := by omega
      have hR := HYE.out HK.out
      subst hR
      go_wp2
      go_ret
      exact ⟨rfl, rfl⟩
end Go.Proofs.Ytmjndpmpeidhaaa
