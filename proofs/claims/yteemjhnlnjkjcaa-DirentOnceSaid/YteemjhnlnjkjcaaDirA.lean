/- Contracts of package dirent and of the reference: IndexByte, Name, Formed. -/
import Derived.Test.YteemjhnlnjkjcaaDirM
import Derived.BigQuiet
namespace Go.Proofs.Yteemjhnlnjkjcaa
open Go.RowKit
set_option linter.unusedVariables false

set_option maxRecDepth 100000 in
theorem slIdx_of (s : ByteArray) (c : Int) (w : World) : Calls Try.prog 26 #[.string s, .int .u8 c] w fun e w' => e = .returned (.int .i64 (Lib.indexByte s.data.toList c.toNat.toUInt8)) ∧ w = w' := by
  go_enter Try.func26, Try.ntmps26
  go_wp2
  rw [run_callFunc_extern Try.func30 (by kernel_rfl) (by kernel_rfl) (by kernel_rfl) (e := Extern.BytealgIndexByte.indexByte) (by kernel_rfl), Lib.run_indexByteString]
  simp only [Result.andThen]
  rw [Oper.upon_value]
  go_wp2
  go_ret
  exact ⟨rfl, rfl⟩
theorem sIdx_of (s : ByteArray) (c : Int) (w : World) : Calls Try.prog 20 #[.string s, .int .u8 c] w fun e w' => e = .returned (.int .i64 (Lib.indexByte s.data.toList c.toNat.toUInt8)) ∧ w = w' := by
  go_enter Try.func20, Try.ntmps20
  go_wp2_with (go_at_call 26; refine (slIdx_of s c _).mono ?_; rintro e w' ⟨rfl, rfl⟩)
  go_ret
  exact ⟨rfl, rfl⟩
theorem dots_is : dot1.toList = [46] ∧ dot2.toList = [46, 46] := by
  rw [ByteArray.toList_eq, ByteArray.toList_eq]; exact ⟨rfl, rfl⟩
theorem eName_is (s : ByteArray) (B : Bool) (h : nameS s = B) (w : World) : Calls Try.prog 12 #[.string s] w fun e w' => e = .returned (.bool B) ∧ w = w' := by
  have K0 := Lib.hid (fun W => sIdx_of s 0 W)
  have K1 := Lib.hid (fun W => sIdx_of s 47 W)
  unfold nameS at h
  rw [clean_two, dots_is.1, dots_is.2] at h
  by_cases h1 : 1 ≤ s.size
  · by_cases h2 : s.size ≤ 13
    · rw [decide_eq_true h1, decide_eq_true h2] at h
      have g1 : ¬ (s.size : Int) < 1 := by omega
      have g2 : ¬ 13 < (s.size : Int) := by omega
      cases d1 : s.toList == [46]
      · cases d2 : s.toList == [46, 46]
        · rw [d1, d2] at h
          obtain ⟨I0, hI0⟩ : ∃ I0, I0 = Lib.indexByte s.data.toList 0 := ⟨_, rfl⟩
          obtain ⟨I1, hI1⟩ : ∃ I1, I1 = Lib.indexByte s.data.toList 47 := ⟨_, rfl⟩
          rw [← hI0, ← hI1] at h
          have K0' : Hid (∀ W, Calls Try.prog 20 #[.string s, .int .u8 0] W fun e w' => e = .returned (.int .i64 I0) ∧ W = w') := Lib.hid (fun W => by rw [hI0]; exact K0.out W)
          have K1' : Hid (∀ W, Calls Try.prog 20 #[.string s, .int .u8 47] W fun e w' => e = .returned (.int .i64 I1) ∧ W = w') := Lib.hid (fun W => by rw [hI1]; exact K1.out W)
          clear K0 K1 hI0 hI1
          by_cases n0 : I0 < 0
          · cases n1 : decide (I1 < 0)
            all_goals
              rw [decide_eq_true n0, n1] at h
              have HB := Lib.hid h
              clear h
              go_enter Try.func12, Try.ntmps12
              go_wp2_with (go_at_call 20; first | ((with_reducible refine (K0'.out _).mono ?_); rintro e w' ⟨rfl, rfl⟩) | ((with_reducible refine (K1'.out _).mono ?_); rintro e w' ⟨rfl, rfl⟩))
              go_ret
              exact ⟨ret_bool HB.out, rfl⟩
          · rw [decide_eq_false n0] at h
            have HB := Lib.hid h
            clear h
            go_enter Try.func12, Try.ntmps12
            go_wp2_with (go_at_call 20; (with_reducible refine (K0'.out _).mono ?_); rintro e w' ⟨rfl, rfl⟩)
            go_ret
            exact ⟨ret_bool HB.out, rfl⟩
        · rw [d1, d2] at h
          have HB := Lib.hid h
          clear h
          go_enter Try.func12, Try.ntmps12
          go_wp2
          go_ret
          exact ⟨ret_bool HB.out, rfl⟩
      · rw [d1] at h
        have HB := Lib.hid h
        clear h
        go_enter Try.func12, Try.ntmps12
        go_wp2
        go_ret
        exact ⟨ret_bool HB.out, rfl⟩
    · rw [decide_eq_true h1, decide_eq_false h2] at h
      have HB := Lib.hid h
      clear h
      have g1 : ¬ (s.size : Int) < 1 := by omega
      have g2 : 13 < (s.size : Int) := by omega
      go_enter Try.func12, Try.ntmps12
      go_wp2
      go_ret
      exact ⟨ret_bool HB.out, rfl⟩
  · rw [decide_eq_false h1] at h
    have HB := Lib.hid h
    clear h
    have g1 : (s.size : Int) < 1 := by omega
    go_enter Try.func12, Try.ntmps12
    go_wp2
    go_ret
    exact ⟨ret_bool HB.out, rfl⟩
theorem rName_is (s : ByteArray) (B : Bool) (h : nameS s = B) (w : World) : Calls Try.prog 13 #[.string s] w fun e w' => e = .returned (.bool B) ∧ w = w' := by
  unfold nameS at h
  rw [dots_is.1, dots_is.2] at h
  by_cases h1 : 1 ≤ s.size
  · by_cases h2 : s.size ≤ 13
    · rw [decide_eq_true h1, decide_eq_true h2] at h
      have g1 : ¬ (s.size : Int) < 1 := by omega
      have g2 : ¬ 13 < (s.size : Int) := by omega
      cases d1 : s.toList == [46]
      · cases d2 : s.toList == [46, 46]
        · rw [d1, d2] at h
          have HNO := Lib.hid (fun k hk hb => cleanS_no s k hk hb)
          have HSU := Lib.hid (fun k hk => cleanK_succ s k hk)
          have HGE := Lib.hid (fun k hk => strB_get s k hk)
          have HALL := Lib.hid (cleanK_all s)
          have HB := Lib.hid h
          have HZ := Lib.hid (cleanK_zero s)
          clear h
          go_enter Try.func13, Try.ntmps13
          go_wp2
          go_loop [22] (fun i => ∃ k : Nat, k ≤ s.size ∧ i = .int .i64 k ∧ Hid (cleanK s k = true)) (fun i => s.size - (intOf i).toNat)
          case atStart => exact ⟨0, by omega, rfl, HZ.out⟩
          case round =>
            obtain ⟨k, hk, rfl, HK⟩ := hrel
            by_cases hlt : k < s.size
            · have hx := HGE.out k hlt
              have hsu := HSU.out k hlt
              have hno := HNO.out k hlt
              rw [hx] at hsu hno
              have ek : (k : Int) < (s.size : Int) := by omega
              cases e0 : (((s[k]).toNat : Int) == 0)
              · cases e1 : (((s[k]).toNat : Int) == 47)
                · have hok : okB ((s[k]).toNat : Int) = true := by unfold okB; rw [e0, e1]; rfl
                  rw [HK.out, hok] at hsu
                  have HSU' := Lib.hid hsu
                  clear hno hsu hx hok
                  go_wp2
                  go_round
                  case rel => exact ⟨k + 1, by omega, by go_num, HSU'.out⟩
                  case measure => simp [intOf]; omega
                · have hok : okB ((s[k]).toNat : Int) = false := by unfold okB; rw [e0, e1]; rfl
                  have HN := Lib.hid (hno hok)
                  clear hno hsu hx hok
                  go_wp2
                  go_ret
                  exact ⟨ret_bool (by rw [← HB.out, HN.out]; rfl), rfl⟩
              · have hok : okB ((s[k]).toNat : Int) = false := by unfold okB; rw [e0]; rfl
                have HN := Lib.hid (hno hok)
                clear hno hsu hx hok
                go_wp2
                go_ret
                exact ⟨ret_bool (by rw [← HB.out, HN.out]; rfl), rfl⟩
            · obtain rfl : k = s.size := by omega
              go_wp2
              go_ret
              exact ⟨ret_bool (by rw [← HB.out, ← HALL.out, HK.out]; rfl), rfl⟩
        · rw [d1, d2] at h
          have HB := Lib.hid h
          clear h
          go_enter Try.func13, Try.ntmps13
          go_wp2
          go_ret
          exact ⟨ret_bool HB.out, rfl⟩
      · rw [d1] at h
        have HB := Lib.hid h
        clear h
        go_enter Try.func13, Try.ntmps13
        go_wp2
        go_ret
        exact ⟨ret_bool HB.out, rfl⟩
    · rw [decide_eq_true h1, decide_eq_false h2] at h
      have HB := Lib.hid h
      clear h
      have g1 : ¬ (s.size : Int) < 1 := by omega
      have g2 : 13 < (s.size : Int) := by omega
      go_enter Try.func13, Try.ntmps13
      go_wp2
      go_ret
      exact ⟨ret_bool HB.out, rfl⟩
  · rw [decide_eq_false h1] at h
    have HB := Lib.hid h
    clear h
    have g1 : (s.size : Int) < 1 := by omega
    go_enter Try.func13, Try.ntmps13
    go_wp2
    go_ret
    exact ⟨ret_bool HB.out, rfl⟩
end Go.Proofs.Yteemjhnlnjkjcaa
