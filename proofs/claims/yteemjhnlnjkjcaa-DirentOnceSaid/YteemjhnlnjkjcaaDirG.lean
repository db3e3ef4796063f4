/- Contracts of package dirent: readAll, Decode. -/
import Derived.Test.YteemjhnlnjkjcaaDirF
namespace Go.Proofs.Yteemjhnlnjkjcaa
open Go.RowKit
set_option linter.unusedVariables false

theorem wpList_append_ent_at (w1 : World) (i : Int) (n : ByteArray) {ops : Array Oper} {rest : List Oper} {o : Oper} {a : Act} {Q : Exit → Act → World → Prop} (hgd : o.guard = none) (S T : TypeId) (s y : Operand)
    (ho : o.op = .call { callee := .builtin .append, args := #[s, y], argTypes := #[S, S] })
    (hu : Try.prog.underlying S = some (.slice T)) (hi : (Try.prog.info? T).map (fun i => (i.zero, i.size, i.bytes)) = some (some (.agg #[.int .i64 0, .string ByteArray.empty]), 2, 24))
    (B : Nat) (v : Value) (O : List (Int × ByteArray)) (hs : a.eval s = v) (hown : ER w1 B T v O) (hO : O.length ≤ 1000000) (q : Nat) (hy : a.eval y = .slice (some ⟨q, 0, none⟩) 1 1) (hq : q = w1.heap.size) (hB : B ≤ w1.heap.size)
    (h : ∀ v' w', ER w' B T v' (O ++ [(i, n)]) → Below B w1 w' → wpList Try.prog ops Q rest (a.put o.dst v') w') : wpList Try.prog ops Q (o :: rest) a (w1.alloc (.cells #[.int .i64 i, .string n] T)) := by
  subst hq
  exact wpList_append_ent w1 i n hgd S T s y ho hu hi B v O hs hown hO hy hB h
/-- What readAll hands back. -/
def ReadT8 (b : List Int) (w : World) (e : Ending) (w' : World) : Prop :=
  ∃ (k : Nat) (u : Value), e = .returned u ∧ k ≤ 16 ∧ (∀ j, j < k → okL (chunk8 b j)) ∧ (k < 16 → ¬ okL (chunk8 b k)) ∧ ESl w' u (rdTo8 b k) ∧ Below w.heap.size w w'
theorem chunk8_length {b : List Int} (hl : b.length = 256) (k : Nat) (hk : k < 16) : (chunk8 b k).length = 16 := by
  unfold chunk8
  rw [List.length_take, List.length_drop]; omega
theorem eReadAll_of {w : World} {v : Value} {l : List Int} (hs : BSl w v l) (hl : l.length = 256) : Calls Try.prog 21 #[v] w (ReadT8 l w) := by
  obtain ⟨b, off, cap, rfl, hcap, hb⟩ := hs.open' (by omega)
  have HS := Lib.hid hs
  have HCH := Lib.hid (fun k hk => chunk8_length hl k hk)
  have HMID := Lib.hid (fun W (h : BSl W (.slice (some ⟨b, off, none⟩) l.length cap) l) lo (hm : lo + 16 ≤ l.length) => h.mid lo 16 hm)
  have HRS := Lib.hid (fun k => rdTo8_succ l k)
  have HRL := Lib.hid (fun k => rdTo8_length l k)
  rw [hl] at HS HMID hcap ⊢
  have u2 := Try.underlying28
  have H0 : Hid (ER w w.heap.size 33 (.slice none 0 0) (rdTo8 l 0)) := Lib.hid (er_nil _ _ _)
  clear hs hl
  go_enter Try.func21, Try.ntmps21
  go_wp2
  go_loopw [3, 7] (fun u i wr => ∃ k : Nat, k ≤ 16 ∧ i = .int .i64 k ∧ Hid (ER wr w.heap.size 33 u (rdTo8 l k)) ∧ Hid (∀ j, j < k → okL (chunk8 l j)) ∧ Below w.heap.size w wr) (fun _ i _ => 16 - (intOf i).toNat)
  case atStart => exact ⟨0, by omega, rfl, H0, fun j hj => absurd hj (Nat.not_lt_zero _), Below.refl _ _⟩
  case round =>
    obtain ⟨k, hk, rfl, HU, HK, hbr⟩ := hrel
    clear H0
    by_cases hlt : k < 16
    · have ek : (k : Int) < 16 := by omega
      have hsr := HMID.out _ (HS.out.below hbr) (k * 16) (by omega)
      have hch : (l.drop (k * 16)).take 16 = chunk8 l k := rfl
      rw [hch] at hsr
      have KR := eRead_of hsr (HCH.out k hlt)
      have hrs := HRS.out k
      obtain ⟨⟨x, y⟩, hx⟩ : ∃ x, x = rdE (chunk8 l k) := ⟨_, rfl⟩
      rw [← hx] at KR hrs
      have ee1 : (k : Int) * 16 = ((k * 16 : Nat) : Int) := by push_cast; omega
      have ee2 : ((k : Int) + 1) * 16 = ((k * 16 + 16 : Nat) : Int) := by push_cast; omega
      have HE32 : Hid (k * 16 + 16 - k * 16 = 16) := Lib.hid (by omega)
      have HE1 := Lib.hid ee1
      have HE2 := Lib.hid ee2
      have hc1 : k * 16 + 16 ≤ cap := by omega
      have hc2 : k * 16 ≤ k * 16 + 16 := by omega
      have hc3 : k * 16 < cap := by omega
      have HNX := Lib.hid hrs
      have HLK : Hid ((rdTo8 l k).length ≤ 1000000) := Lib.hid (by rw [HRL.out]; omega)
      by_cases hok : okL (chunk8 l k)
      · have KY := Lib.hid (KR.2 hok)
        have HOK := Lib.hid hok
        clear hx hsr hch ee1 ee2 KR hrs hok
        go_wp2_with (first
          | (with_reducible refine wpList_slice_lh rfl (.tmp 11) (.tmp 13) (.tmp 16) rfl b off 256 cap rfl ((k : Int) * 16) (((k : Int) + 1) * 16) rfl rfl (k * 16) (k * 16 + 16) 16 HE32.out HE1.out HE2.out hc2 hc1 hc3 ?_)
          | (go_at_call 27; refine KY.out.mono ?_; rintro e w3 ⟨rfl, hb3⟩
             have HB3 := Lib.hid (hb3.trans ((below_box w3 (.cells #[.int .i64 x, .string y] 33)).mono hb3.size))
             have HN3 := Lib.hid (HU.out.below HB3.out)
             have HBR3 := Lib.hid (hbr.trans (HB3.out.mono hbr.size)))
          | (at_builtin; refine wpList_append_ent_at _ x y rfl 28 33 (.tmp 23) (.tmp 25) rfl u2 infoE w.heap.size _ (rdTo8 l k) rfl HN3.out HLK.out (w3.heap.size + 1) rfl (by simp) HBR3.out.size ?_
             intro v7 w7 hob7 hb7))
        go_roundw
        case rel =>
          refine ⟨k + 1, by omega, by go_num, by show ER _ _ _ _ (rdTo8 l (k + 1)); rw [HNX.out]; exact hob7, fun j hj => ?_, HBR3.out.trans hb7⟩
          by_cases e : j = k
          · subst e; exact HOK.out
          · exact HK.out j (by omega)
        case measure => simp [intOf]; omega
      · have KN := Lib.hid (KR.1 hok)
        have HOK := Lib.hid hok
        clear hx hsr hch ee1 ee2 KR hrs hok
        go_wp2_with (first
          | (with_reducible refine wpList_slice_lh rfl (.tmp 11) (.tmp 13) (.tmp 16) rfl b off 256 cap rfl ((k : Int) * 16) (((k : Int) + 1) * 16) rfl rfl (k * 16) (k * 16 + 16) 16 HE32.out HE1.out HE2.out hc2 hc1 hc3 ?_)
          | (go_at_call 27; refine KN.out.mono ?_; rintro e w3 ⟨⟨i3, s3, rfl⟩, hb3⟩
             have HB3 := Lib.hid (hb3.trans ((below_box w3 (.cells #[.int .i64 i3, .string s3] 33)).mono hb3.size))
             have HN3 := Lib.hid (HU.out.below HB3.out)
             have HBR3 := Lib.hid (hbr.trans (HB3.out.mono hbr.size))))
        go_ret
        exact ⟨k, _, rfl, hk, HK.out, fun _ => HOK.out, HN3.out.sl, HBR3.out⟩
    · obtain rfl : k = 16 := by omega
      go_wp2
      go_ret
      exact ⟨16, _, rfl, Nat.le_refl _, HK.out, fun h => absurd h (Nat.lt_irrefl _), HU.out.sl, hbr⟩
/-- What Decode hands back. -/
def DecT8 (b : List Int) (w : World) (e : Ending) (w' : World) : Prop :=
  (∃ O, IsBlk O b ∧ ∃ u, e = .returned (.tuple #[u, .int .i64 0]) ∧ ESl w' u O ∧ Below w.heap.size w w') ∨
  ((∀ O, ¬ IsBlk O b) ∧ e = .returned (.tuple #[.slice none 0 0, .int .i64 18]) ∧ Below w.heap.size w w')
theorem eDec_len {w : World} (ao : Option Addr) (len cap : Nat) (h : len ≠ 256) : Calls Try.prog 14 #[.slice ao len cap] w fun e w' => e = .returned (.tuple #[.slice none 0 0, .int .i64 18]) ∧ w = w' := by
  have hne : ((len : Int) != 256) = true := by simp; omega
  go_enter Try.func14, Try.ntmps14
  go_wp2
  go_ret2
  exact ⟨rfl, rfl⟩
theorem isBlk_len {O : List (Int × ByteArray)} {b : List Int} (h : IsBlk O b) : b.length = 256 := by
  rw [← h.2]; exact encD_length h.1
theorem eDec_256 {w : World} {v : Value} {l : List Int} (hs : BSl w v l) (hl : l.length = 256) : Calls Try.prog 14 #[v] w (DecT8 l w) := by
  have KR := Lib.hid (eReadAll_of hs hl)
  obtain ⟨b, off, cap, rfl, hcap, hb⟩ := hs.open' (by omega)
  have HS := Lib.hid hs
  rw [hl] at HS KR ⊢
  have K := (KR.out)
  -- the callee's outcome first, then the walk for each
  have key : ∀ (k : Nat) (u : Value) (W : World), k ≤ 16 → (∀ j, j < k → okL (chunk8 l j)) → (k < 16 → ¬ okL (chunk8 l k)) → ESl W u (rdTo8 l k) → Below w.heap.size w W →
      ((∃ O, O = rdTo8 l k ∧ IsBlk O l ∧ Calls Try.prog 7 #[u] W fun e w' => ∃ u', e = .returned (.tuple #[u', .int .i64 0]) ∧ BSl w' u' l ∧ Below W.heap.size W w') ∨
       ((∀ O, ¬ IsBlk O l) ∧ ∃ (m : List Int) (E : Int), (E = 1 ∨ E = 0 ∧ m ≠ l) ∧ Calls Try.prog 7 #[u] W fun e w' => ∃ u', e = .returned (.tuple #[u', .int .i64 E]) ∧ BSl w' u' m ∧ Below W.heap.size W w')) := by
    intro k u W hk h1 h2 hu hb
    cases ha : allE (rdTo8 l k)
    · refine .inr ⟨fun O hO => ?_, [], 1, .inl rfl, (eEnc_any hu).mono ?_⟩
      · have := dec_shape okL (fun e => okL_enc) okL_zero hk h1 h2 hO
        rw [this, hO.1] at ha; cases ha
      · rintro e w' (⟨ht, _⟩ | ⟨_, he, hb⟩)
        · rw [ha] at ht; cases ht
        · exact ⟨_, he, bsl_nil _, hb⟩
    · by_cases he : encD (rdTo8 l k) = l
      · refine .inl ⟨_, rfl, ⟨ha, he⟩, (eEnc_any hu).mono ?_⟩
        rintro e w' (⟨_, u', h3, ho, hb⟩ | ⟨ht, _⟩)
        · refine ⟨u', h3, ?_, hb⟩
          rw [he] at ho; exact ho.bsl
        · rw [ha] at ht; cases ht
      · refine .inr ⟨fun O hO => ?_, encD (rdTo8 l k), 0, .inr ⟨rfl, he⟩, (eEnc_any hu).mono ?_⟩
        · have := dec_shape okL (fun e => okL_enc) okL_zero hk h1 h2 hO
          rw [this] at he; exact he hO.2
        · rintro e w' (⟨_, u', h3, ho, hb⟩ | ⟨ht, _⟩)
          · exact ⟨u', h3, ho.bsl, hb⟩
          · rw [ha] at ht; cases ht
  have KEY := Lib.hid key
  clear hs hl K key
  go_enter Try.func14, Try.ntmps14
  go_wp2_with (go_at_call 21; refine KR.out.mono ?_; rintro e w2 ⟨k, u, rfl, hk, h1, h2, hu, hb2⟩
               have KK := Lib.hid (KEY.out k u w2 hk h1 h2 hu hb2)
               have HU := Lib.hid hu
               clear h1 h2 hu hk)
  have HB2 := Lib.hid hb2
  have HV2 := Lib.hid (HS.out.below hb2)
  rcases KK.out with ⟨O, hO, hblk, hcall⟩ | ⟨hno, m, E, hE, hcall⟩
  · have HBK := Lib.hid hblk
    have HC := Lib.hid hcall
    have HO := Lib.hid hO
    clear hO hblk hcall hb2 KK KEY KR
    go_wp2_with (first
      | (go_at_call 7; refine HC.out.mono ?_; rintro e w3 ⟨u3, rfl, hu3, hb3⟩
         have K4 := bEqual_of hu3 (HV2.out.below hb3)
         rw [decide_eq_true (rfl : l = l)] at K4
         have HB3 := Lib.hid hb3)
      | (go_at_call 22; refine K4.mono ?_; rintro e w4 ⟨rfl, rfl⟩))
    go_ret2
    exact .inl ⟨O, HBK.out, _, rfl, by rw [HO.out]; exact HU.out.below HB3.out, HB2.out.trans (HB3.out.mono HB2.out.size)⟩
  · have HN := Lib.hid hno
    have HC := Lib.hid hcall
    clear hno hcall hb2 KK KEY KR
    rcases hE with rfl | ⟨rfl, hne⟩
    · go_wp2_with (go_at_call 7; refine HC.out.mono ?_; rintro e w3 ⟨u3, rfl, hu3, hb3⟩)
      go_ret2
      exact .inr ⟨HN.out, rfl, HB2.out.trans (hb3.mono HB2.out.size)⟩
    · have HNE := Lib.hid hne
      clear hne
      go_wp2_with (first
        | (go_at_call 7; refine HC.out.mono ?_; rintro e w3 ⟨u3, rfl, hu3, hb3⟩
           have K4 := bEqual_of hu3 (HV2.out.below hb3)
           rw [decide_eq_false HNE.out] at K4
           have HB3 := Lib.hid hb3)
        | (go_at_call 22; refine K4.mono ?_; rintro e w4 ⟨rfl, rfl⟩))
      go_ret2
      exact .inr ⟨HN.out, rfl, HB2.out.trans (HB3.out.mono HB2.out.size)⟩
theorem eDec_any {w : World} {v : Value} {l : List Int} (hs : BSl w v l) : Calls Try.prog 14 #[v] w (DecT8 l w) := by
  by_cases h : l.length = 256
  · exact eDec_256 hs h
  · obtain ⟨ao, cap, rfl, _⟩ := hs.shape
    exact (eDec_len ao _ cap h).mono fun e w' ⟨he, hw⟩ => .inr ⟨fun O hO => h (isBlk_len hO), he, by rw [← hw]; exact Below.refl _ _⟩
end Go.Proofs.Yteemjhnlnjkjcaa
