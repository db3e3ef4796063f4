/- Contracts: the reference's EncodeMap, DecodeMap; both sides at once. -/
import Derived.Test.YtbikbglkecbgjaaInoB
namespace Go.Proofs.Ytbikbglkecbgjaa
open Go.RowKit
set_option linter.unusedVariables false

theorem rEncM_len {w : World} (ao : Option Addr) (len cap : Nat) (h : len ≠ 128) : Calls Try.prog 17 #[.slice ao len cap] w fun e w' => e = .returned (.tuple #[.slice none 0 0, .int .i64 1]) ∧ w = w' := by
  have hne : ((len : Int) != 128) = true := by simp; omega
  go_enter Try.func17, Try.ntmps17
  go_wp2
  go_ret2
  exact ⟨rfl, rfl⟩
theorem ob_nil (w : World) (B : Nat) : OB w B (.slice none 0 0) [] := ⟨byt_nil, World.ownsRow_nil w B _ _⟩
/-- What EncodeMap hands back of 128 numbers. -/
def EncM (l : List Int) (w : World) (e : Ending) (w' : World) : Prop :=
  (locS l = true ∧ ∃ u, e = .returned (.tuple #[u, .int .i64 0]) ∧ OB w' w.heap.size u (mapS l) ∧ Below w.heap.size w w') ∨
  (locS l = false ∧ e = .returned (.tuple #[.slice none 0 0, .int .i64 1]) ∧ Below w.heap.size w w')
theorem rEncM_128 {w : World} {v : Value} {l : List Int} (hs : ISl w v l) (hl : l.length = 128) : Calls Try.prog 17 #[v] w (EncM l w) := by
  obtain ⟨b, off, cap, rfl, hb, hc⟩ := hs.at (by omega)
  have HYE := Lib.hid ((locS_iff l).2)
  have HNO := Lib.hid (fun k hk h => locS_no (l := l) (k := k) hk h)
  rw [hl] at hc HYE HNO ⊢
  have HC := Lib.hid hc
  clear hs hc hl
  go_enter Try.func17, Try.ntmps17
  go_wp2
  go_loopw [4, 11] (fun u i wr => ∃ k : Nat, k ≤ 128 ∧ i = .int .i64 k ∧ Hid (OB wr w.heap.size u (mapK l k)) ∧ Hid (∀ j, j < k → inB (l.getD j 0) = true) ∧ Below w.heap.size w wr) (fun _ i _ => 128 - (intOf i).toNat)
  case atStart => exact ⟨0, by omega, rfl, ob_nil _ _, fun j hj => absurd hj (Nat.not_lt_zero _), Below.refl _ _⟩
  case round =>
    obtain ⟨k, hk, rfl, HOB, HK, hbr⟩ := hrel
    by_cases hlt : k < 128
    · have hck := (hbr.cell (p := ⟨b, off + k, none⟩) hb).trans (HC.out k hlt)
      have hno := HNO.out k hlt
      have hpk : mapK l (k + 1) = mapK l k ++ lowB (l.getD k 0) 2 := rfl
      obtain ⟨x, hx⟩ : ∃ x, x = l.getD k 0 := ⟨_, rfl⟩
      rw [← hx] at hck hpk hno
      have ek : (k : Int) < 128 := by omega
      have HX := Lib.hid hx
      have HPK := Lib.hid hpk
      have HL := Lib.hid (mapK_length l k)
      have HN1 := Lib.hid hno
      clear hx hpk hno
      cases hf : inB x
      · have HF := Lib.hid hf
        clear hf
        go_wp2_with (go_at_call 31; refine (rPlace_is x _ HF.out _).mono ?_; rintro e w' ⟨rfl, rfl⟩)
        go_ret2
        exact .inr ⟨HN1.out HF.out, rfl, hbr⟩
      · have HF := Lib.hid hf
        obtain ⟨x0, x1⟩ := inB_iff.1 hf
        clear hf
        go_wp2_with (first
          | (go_at_call 31; refine (rPlace_is x _ HF.out _).mono ?_; rintro e w' ⟨rfl, rfl⟩)
          | (go_at_call 22; refine (rPut_at HOB.out.bsl (by rw [HL.out]; omega) x 2 2 (by omega) (by omega) rfl x0 (by omega)).mono ?_; rintro e w4 ⟨v4, rfl, hob4, hb4⟩))
        go_roundw
        case rel =>
          refine ⟨k + 1, by omega, by go_num, by show OB _ _ _ (mapK l (k + 1)); rw [HPK.out]; exact hob4.more hbr.size, fun j hj => ?_, hbr.trans (hb4.mono hbr.size)⟩
          by_cases e : j = k
          · subst e; rw [← HX.out]; exact HF.out
          · exact HK.out j (by omega)
        case measure => simp [intOf]; omega
    · obtain rfl : k = 128 := by omega
      go_wp2
      go_ret2
      exact .inl ⟨HYE.out HK.out, _, rfl, HOB.out, hbr⟩

theorem rDecM_len {w : World} (ao : Option Addr) (len cap : Nat) (h : len ≠ 256) : Calls Try.prog 19 #[.slice ao len cap] w fun e w' => e = .returned (.tuple #[.slice none 0 0, .int .i64 18]) ∧ w = w' := by
  have hne : ((len : Int) != 256) = true := by simp; omega
  go_enter Try.func19, Try.ntmps19
  go_wp2
  go_ret2
  exact ⟨rfl, rfl⟩
theorem rDecM_256 {w : World} {v : Value} {l : List Int} (hs : BSl w v l) (hl : l.length = 256) : Calls Try.prog 19 #[v] w (DecM l w) := by
  obtain ⟨ao, cap, rfl, _⟩ := hs.shape
  have HS := Lib.hid hs
  have HL := Lib.hid hl
  have HYE := Lib.hid ((locS_iff (rdK l 128)).2)
  have HNO := Lib.hid (fun k hk h => locS_no (l := rdK l 128) (k := k) hk h)
  rw [rdK_length] at HYE HNO
  rw [hl] at HS ⊢
  clear hs hl
  go_enter Try.func19, Try.ntmps19
  go_wp2
  go_loopw [4, 10] (fun u i wr => ∃ k : Nat, k ≤ 128 ∧ i = .int .i64 k ∧ Hid (∀ j, j < k → inB ((rdK l 128).getD j 0) = true) ∧ Hid (IR wr w.heap.size u (rdK l k)) ∧ Below w.heap.size w wr) (fun _ i _ => 128 - (intOf i).toNat)
  case atStart => exact ⟨0, by omega, rfl, fun j hj => absurd hj (Nat.not_lt_zero _), ir_nil _ _, Below.refl _ _⟩
  case round =>
    obtain ⟨k, hk, rfl, HK, HU, hbr⟩ := hrel
    by_cases hlt : k < 128
    · have ek : (k : Int) < 128 := by omega
      have hsr := HS.out.below hbr
      have T1 := rTwoW hsr (by rw [HL.out]; decide) (2 * k) (2 * (k : Int)) (by push_cast; rfl) (by rw [HL.out]; omega) _ rfl
      have b1 := getV2_le (byt_mem hsr.1) (2 * k)
      have hsu := rdK_succ l k
      have hgk := rdK_get l 128 k hlt
      have hno := HNO.out k hlt
      rw [hgk] at hno
      obtain ⟨x, hx⟩ : ∃ x, x = getV l (2 * k) 2 := ⟨_, rfl⟩
      rw [← hx] at T1 b1 hsu hgk hno
      have H1 := Lib.hid T1
      have HSU := Lib.hid hsu
      have HGK := Lib.hid hgk
      have HN1 := Lib.hid hno
      have HKL := Lib.hid (rdK_length l k)
      clear T1 hx hsr hsu hgk hno
      obtain ⟨b10, b11⟩ := b1
      cases hf : inB x
      all_goals
        have HF := Lib.hid hf
        clear hf
      · go_wp2_with (first
          | (go_at_call 26; (with_reducible refine H1.out.mono ?_); rintro e w2 ⟨rfl, rfl⟩)
          | (go_at_call 31; refine (rPlace_is x _ HF.out _).mono ?_; rintro e w' ⟨rfl, rfl⟩))
        go_ret2
        exact .inr ⟨(fun h => by have h2 := h.2; rw [HN1.out HF.out] at h2; cases h2), rfl, hbr⟩
      · go_wp2_with (first
          | (go_at_call 26; (with_reducible refine H1.out.mono ?_); rintro e w2 ⟨rfl, rfl⟩)
          | (go_at_call 31; refine (rPlace_is x _ HF.out _).mono ?_; rintro e w' ⟨rfl, rfl⟩)
          | (at_builtin
             refine wpList_append_int wr x rfl _ _ rfl w.heap.size _ (rdK l k) rfl HU.out (by rw [HKL.out]; omega) rfl hbr.size ?_
             intro v4 w4 hob4 hb4))
        go_roundw
        case rel =>
          refine ⟨k + 1, by omega, by go_num, fun j hj => ?_, by show IR _ _ _ (rdK l (k + 1)); rw [HSU.out]; exact hob4, hbr.trans hb4⟩
          by_cases e : j = k
          · subst e; rw [HGK.out]; exact HF.out
          · exact HK.out j (by omega)
        case measure => simp [intOf]; omega
    · obtain rfl : k = 128 := by omega
      go_wp2
      go_ret2
      exact .inl ⟨⟨HL.out, HYE.out HK.out⟩, _, rfl, HU.out.sl, hbr⟩
theorem rDecM_any {w : World} {v : Value} {l : List Int} (hs : BSl w v l) : Calls Try.prog 19 #[v] w (DecM l w) := by
  by_cases h : l.length = 256
  · exact rDecM_256 hs h
  · obtain ⟨ao, cap, rfl, _⟩ := hs.shape
    exact (rDecM_len ao _ cap h).mono fun e w' ⟨he, hw⟩ => .inr ⟨fun hp => h hp.1, he, by rw [← hw]; exact Below.refl _ _⟩

/-- EncodeMap of both sides. -/
theorem encM_both (l : List Int) : ∃ (x : List Int) (E : Int), Byt x ∧ (E = 0 ∧ hasM x ∧ rdK x 128 = l ∨ E = 1) ∧
    (∀ (W : World) (v : Value), ISl W v l → Calls Try.prog 16 #[v] W fun e w' => ∃ u, e = .returned (.tuple #[u, .int .i64 E]) ∧ BSl w' u x ∧ Below W.heap.size W w') ∧
    (∀ (W : World) (v : Value), ISl W v l → Calls Try.prog 17 #[v] W fun e w' => ∃ u, e = .returned (.tuple #[u, .int .i64 E]) ∧ BSl w' u x ∧ Below W.heap.size W w') := by
  by_cases hl : l.length = 128
  · cases h : locS l
    · refine ⟨[], 1, byt_nil, .inr rfl, fun W v hs => (iEncM_not hs hl h).mono fun e w' ⟨he, hw⟩ => ⟨_, he, bsl_nil _, by rw [← hw]; exact Below.refl _ _⟩, fun W v hs => (rEncM_128 hs hl).mono fun e w' ho => ?_⟩
      rcases ho with ⟨h1, _⟩ | ⟨_, he, hb⟩
      · rw [h] at h1; cases h1
      · exact ⟨_, he, bsl_nil _, hb⟩
    · refine ⟨mapS l, 0, ?_, .inl ⟨rfl, has_map hl h, rd_map hl h⟩, fun W v hs => (iEncM_yes hs hl h).mono fun e w' ⟨u, he, ho, hb⟩ => ⟨u, he, ho.bsl, hb⟩, fun W v hs => (rEncM_128 hs hl).mono fun e w' ho => ?_⟩
      · have : ∀ k, Byt (mapK l k) := fun k => by
          induction k with
          | zero => exact byt_nil
          | succ k ih => exact byt_append ih (byt_low _ _)
        exact this 128
      · rcases ho with ⟨_, u, he, ho, hb⟩ | ⟨h1, _⟩
        · exact ⟨u, he, ho.bsl, hb⟩
        · rw [h] at h1; cases h1
  · refine ⟨[], 1, byt_nil, .inr rfl, fun W v hs => ?_, fun W v hs => ?_⟩
    · obtain ⟨ao, cap, rfl⟩ := hs.shape
      exact (iEncM_len ao _ cap hl).mono fun e w' ⟨he, hw⟩ => ⟨_, he, bsl_nil _, by rw [← hw]; exact Below.refl _ _⟩
    · obtain ⟨ao, cap, rfl⟩ := hs.shape
      exact (rEncM_len ao _ cap hl).mono fun e w' ⟨he, hw⟩ => ⟨_, he, bsl_nil _, by rw [← hw]; exact Below.refl _ _⟩
/-- DecodeMap of both sides. -/
theorem decM_both (b : List Int) : ∃ (l : List Int) (E : Int), l.length ≤ 128 ∧ (hasM b → E = 0 ∧ l = rdK b 128) ∧
    (∀ (W : World) (v : Value), BSl W v b → Calls Try.prog 18 #[v] W fun e w' => ∃ u, e = .returned (.tuple #[u, .int .i64 E]) ∧ ISl w' u l ∧ Below W.heap.size W w') ∧
    (∀ (W : World) (v : Value), BSl W v b → Calls Try.prog 19 #[v] W fun e w' => ∃ u, e = .returned (.tuple #[u, .int .i64 E]) ∧ ISl w' u l ∧ Below W.heap.size W w') := by
  have key : ∀ (W : World) (e : Ending) (w' : World), DecM b W e w' → (hasM b → ∃ u, e = .returned (.tuple #[u, .int .i64 0]) ∧ ISl w' u (rdK b 128) ∧ Below W.heap.size W w') ∧ (¬ hasM b → ∃ u, e = .returned (.tuple #[u, .int .i64 18]) ∧ ISl w' u [] ∧ Below W.heap.size W w') := by
    rintro W e w' (⟨h, u, he, ho, hb⟩ | ⟨h, he, hb⟩)
    · exact ⟨fun _ => ⟨u, he, ho, hb⟩, fun hn => absurd h hn⟩
    · exact ⟨fun hp => absurd hp h, fun _ => ⟨_, he, isl_nil _, hb⟩⟩
  by_cases h : hasM b
  · exact ⟨rdK b 128, 0, by rw [rdK_length]; exact Nat.le_refl _, fun _ => ⟨rfl, rfl⟩, fun W v hs => (iDecM_any hs).mono fun e w' ho => (key W e w' ho).1 h, fun W v hs => (rDecM_any hs).mono fun e w' ho => (key W e w' ho).1 h⟩
  · exact ⟨[], 18, by decide, fun hh => absurd hh h, fun W v hs => (iDecM_any hs).mono fun e w' ho => (key W e w' ho).2 h, fun W v hs => (rDecM_any hs).mono fun e w' ho => (key W e w' ho).2 h⟩
end Go.Proofs.Ytbikbglkecbgjaa
