/- The reference's EncodeDir; Encode of both sides. -/
import Derived.Test.YteemjhnlnjkjcaaDirD
namespace Go.Proofs.Yteemjhnlnjkjcaa
open Go.RowKit
set_option linter.unusedVariables false

theorem rEncD_long {w : World} (ao : Option Addr) (len cap : Nat) (h : 16 < len) : Calls Try.prog 9 #[.slice ao len cap] w fun e w' => e = .returned (.tuple #[.slice none 0 0, .int .i64 1]) ∧ w = w' := by
  have h2 : 16 < (len : Int) := by omega
  go_enter Try.func9, Try.ntmps9
  go_wp2
  go_ret2
  exact ⟨rfl, rfl⟩
theorem encD_full (O : List (Int × ByteArray)) : encD O = encK8 O O.length ++ List.replicate (256 - 16 * O.length) 0 := by rw [encK8_full]; rfl
theorem rEncD_few {w : World} {v : Value} {O : List (Int × ByteArray)} (hs : ESl w v O) (h16 : O.length ≤ 16) : Calls Try.prog 9 #[v] w (EncT8 O w) := by
  obtain ⟨ao, cap, rfl, hc⟩ := hs.open'
  have HYE := Lib.hid (fun h => allE_all h16 h)
  have HNO := Lib.hid (fun k hk h => allE_no (O := O) k hk h)
  have HSU := Lib.hid (fun k hk => encK8_succ (O := O) k hk)
  have HLN := Lib.hid (fun k hk h => encK8_length (O := O) k hk h)
  have HFU := Lib.hid (encD_full O)
  have H00 : Hid (OB w w.heap.size (.slice none 0 0) (encK8 O 0)) := Lib.hid ⟨byt_nil, World.ownsRow_nil _ _ _ _⟩
  obtain ⟨n, hn⟩ : ∃ n, n = O.length := ⟨_, rfl⟩
  rw [← hn] at hc h16 HYE HNO HSU HLN HFU ⊢
  have HC := Lib.hid hc
  have h16i : ¬ 16 < (n : Int) := by omega
  clear hs hc hn
  go_enter Try.func9, Try.ntmps9
  go_wp2
  go_loopw [4, 11] (fun u i wr => ∃ k : Nat, k ≤ n ∧ i = .int .i64 k ∧ Hid (OB wr w.heap.size u (encK8 O k)) ∧ Hid (∀ j, j < k → frmE (O.getD j default) = true) ∧ Below w.heap.size w wr) (fun _ i _ => n - (intOf i).toNat)
  case atStart => exact ⟨0, by omega, rfl, H00, fun j hj => absurd hj (Nat.not_lt_zero _), Below.refl _ _⟩
  case round =>
    obtain ⟨k, hk, rfl, HOB, HK, hbr⟩ := hrel
    by_cases hlt : k < n
    · obtain ⟨b, off, rfl, hb, hcc⟩ := HC.out (by omega)
      have hck := hcc k hlt
      have hno := HNO.out k hlt
      have hsu := HSU.out k hlt
      have hln := HLN.out k hk HK.out
      obtain ⟨⟨x, y⟩, hx⟩ : ∃ x, x = O.getD k default := ⟨_, rfl⟩
      rw [← hx] at hck hno hsu
      have c1 := (hbr.cell (p := ⟨b, off + k * 2, none⟩) hb).trans hck.1
      have c2 := (hbr.cell (p := ⟨b, off + k * 2 + 1, none⟩) hb).trans hck.2
      have hbw : b < wr.heap.size := Nat.lt_of_lt_of_le hb hbr.size
      have ek : (k : Int) < (n : Int) := by omega
      have HX := Lib.hid hx
      have HN1 := Lib.hid hno
      have HS1 := Lib.hid hsu
      have HL1 := Lib.hid hln
      cases hf : frmE (x, y)
      · have HF := Lib.hid hf
        have KF := Lib.hid (fun W => rFormE_is x y false hf W)
        clear hx hcc hck hno hsu hln hf
        go_wp2_with (go_at_call 11; refine (KF.out _).mono ?_; rintro e w5 ⟨rfl, hb5⟩)
        go_ret2
        exact .inr ⟨HN1.out HF.out, rfl, hbr.trans (hb5.mono hbr.size)⟩
      · have HF := Lib.hid hf
        have KF := Lib.hid (fun W => rFormE_is x y true hf W)
        have KW := Lib.hid (fun W => rSpelt_of x y hf W)
        have HEL : Hid ((encE (x, y)).length = 16) := Lib.hid (encE_length (frmE_len hf).2)
        clear hx hcc hck hno hsu hln hf
        go_wp2_with (first
          | (go_at_call 11; refine (KF.out _).mono ?_; rintro e w5 ⟨rfl, hb5⟩
             have c3 := (hb5.cell (p := ⟨b, off + k * 2, none⟩) hbw).trans c1
             have c4 := (hb5.cell (p := ⟨b, off + k * 2 + 1, none⟩) hbw).trans c2
             have HB5 := Lib.hid hb5)
          | (go_at_call 19; refine (KW.out _).mono ?_; rintro e w6 ⟨v6, rfl, hob6, hb6⟩
             have HB6 := Lib.hid (HB5.out.trans (hb6.mono HB5.out.size))
             have HB06 := Lib.hid (hbr.trans (HB6.out.mono hbr.size)))
          | (at_builtin; refine wpList_append_bytes w6 rfl _ _ rfl w.heap.size _ (encK8 O k) rfl (HOB.out.below HB6.out) w6 v6 (encE (x, y)) rfl hob6.bsl (fun _ _ => rfl) (by rw [HL1.out, HEL.out]; omega) HB06.out.size ?_
             intro v7 w7 hob7 hb7 _))
        go_roundw
        case rel =>
          refine ⟨k + 1, by omega, by go_num, by show OB _ _ _ (encK8 O (k + 1)); rw [HS1.out]; exact hob7, fun j hj => ?_, HB06.out.trans hb7⟩
          by_cases e : j = k
          · subst e; rw [← HX.out]; exact HF.out
          · exact HK.out j (by omega)
        case measure => simp [intOf]; omega
    · obtain rfl : k = n := by omega
      have hln := HLN.out k hk HK.out
      obtain ⟨ao4, cap4, rfl, _⟩ := HOB.out.bsl.shape
      rw [hln] at HOB ⊢
      obtain ⟨N, hN⟩ : ∃ N, N = 16 * k := ⟨_, rfl⟩
      rw [← hN] at HOB HFU hln ⊢
      have hN256 : N ≤ 256 := by omega
      have HLE : Hid ((encK8 O k).length + (256 - N) ≤ 140737488355328) := Lib.hid (by rw [hln]; omega)
      have HM : Hid ((256 : Int) - (N : Int) = ((256 - N : Nat) : Int)) := Lib.hid (by omega)
      clear hN hln
      go_wp2_with (at_builtin; refine wpList_append_zeros wr rfl (.tmp 28) (.tmp 31) rfl w.heap.size _ (encK8 O k) rfl HOB.out _ (256 - N) rfl HM.out HLE.out hbr.size ?_; intro v8 w8 hob8 hb8)
      go_ret2
      exact .inl ⟨HYE.out HK.out, _, rfl, by rw [HFU.out]; exact hob8, hbr.trans hb8⟩
theorem rEncD_any {w : World} {v : Value} {O : List (Int × ByteArray)} (hs : ESl w v O) : Calls Try.prog 9 #[v] w (EncT8 O w) := by
  by_cases h : O.length ≤ 16
  · exact rEncD_few hs h
  · obtain ⟨ao, cap, rfl⟩ := hs.shape
    exact (rEncD_long ao _ cap (by omega)).mono fun e w' ⟨he, hw⟩ => .inr ⟨allE_long (by omega), he, by rw [← hw]; exact Below.refl _ _⟩
theorem encD_byt {O : List (Int × ByteArray)} (h : allE O = true) : Byt (encD O) := by
  rw [← curK_full]
  exact curK_byt _ fun j hj => by
    have e2 : O.getD j default = O[j] := by simp [List.getD_eq_getElem?_getD, hj]
    rw [e2]; exact (allE_mem h).2 _ (List.getElem_mem hj)
/-- Encode of both sides. -/
theorem enc_both8 (O : List (Int × ByteArray)) : ∃ (x : List Int) (E : Int), Byt x ∧ (E = 0 ∧ IsBlk O x ∨ E = 1 ∧ allE O = false ∧ x = []) ∧
    (∀ (W : World) (v : Value), ESl W v O → Calls Try.prog 7 #[v] W fun e w' => ∃ u, e = .returned (.tuple #[u, .int .i64 E]) ∧ (OB w' W.heap.size u x ∨ u = .slice none 0 0 ∧ x = []) ∧ Below W.heap.size W w') ∧
    (∀ (W : World) (v : Value), ESl W v O → Calls Try.prog 9 #[v] W fun e w' => ∃ u, e = .returned (.tuple #[u, .int .i64 E]) ∧ BSl w' u x ∧ Below W.heap.size W w') := by
  cases h : allE O
  · refine ⟨[], 1, byt_nil, .inr ⟨rfl, rfl, rfl⟩, fun W v hs => (eEnc_any hs).mono ?_, fun W v hs => (rEncD_any hs).mono ?_⟩
    · rintro e w' (⟨ht, _⟩ | ⟨_, he, hb⟩)
      · rw [h] at ht; cases ht
      · exact ⟨_, he, .inr ⟨rfl, rfl⟩, hb⟩
    · rintro e w' (⟨ht, _⟩ | ⟨_, he, hb⟩)
      · rw [h] at ht; cases ht
      · exact ⟨_, he, bsl_nil _, hb⟩
  · refine ⟨encD O, 0, encD_byt h, .inl ⟨rfl, h, rfl⟩, fun W v hs => (eEnc_any hs).mono ?_, fun W v hs => (rEncD_any hs).mono ?_⟩
    · rintro e w' (⟨_, u, he, ho, hb⟩ | ⟨ht, _⟩)
      · exact ⟨u, he, .inl ho, hb⟩
      · rw [h] at ht; cases ht
    · rintro e w' (⟨_, u, he, ho, hb⟩ | ⟨ht, _⟩)
      · exact ⟨u, he, ho.bsl, hb⟩
      · rw [h] at ht; cases ht
end Go.Proofs.Yteemjhnlnjkjcaa
