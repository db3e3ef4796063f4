/- The reference's DecodeDir; Decode of both sides. -/
import Derived.Test.YteemjhnlnjkjcaaDirH
namespace Go.Proofs.Yteemjhnlnjkjcaa
open Go.RowKit
set_option linter.unusedVariables false

theorem rReadE_of {w : World} {v : Value} {c : List Int} (hs : BSl w v c) (hc : 16 ≤ c.length) (hcM : c.length ≤ 100000) :
    (¬ okR (c.take 16) → Calls Try.prog 23 #[v] w fun e w' => (∃ i s, e = .returned (.tuple #[.agg #[.int .i64 i, .string s], .bool false])) ∧ Below w.heap.size w w') ∧
    (okR (c.take 16) → Calls Try.prog 23 #[v] w fun e w' => e = .returned (.tuple #[.agg #[.int .i64 (rdE (c.take 16)).1, .string (rdE (c.take 16)).2], .bool true]) ∧ Below w.heap.size w w') := by
  have hy := hs.1 2
  have hg := take_getD (c := c) 2 16 (by omega)
  by_cases h : 13 < c.getD 2 0
  · exact ⟨fun _ => rReadE_long hs hc h, fun ho => by have := ho.1; rw [hg] at this; omega⟩
  · have hrd := rdE_take (c := c) (by rw [hg]; omega)
    obtain ⟨n, hn⟩ : ∃ n : Nat, c.getD 2 0 = (n : Int) := ⟨(c.getD 2 0).toNat, by omega⟩
    have hn13 : n ≤ 13 := by omega
    have key := fun D hD => rReadE_short hs hc hcM n hn hn13 (getV c 0 2) rfl (strOfNums ((c.drop 3).take n)) rfl D hD
    rw [hn, Int.toNat_natCast] at hrd
    rw [hrd]
    refine ⟨fun hno => (key false ?_).mono fun e w' he => ⟨⟨_, _, he.1⟩, he.2⟩, fun hok => key true ?_⟩
    · rw [← hrd]
      by_cases h1 : frmE (rdE (c.take 16)) = true
      · rw [h1, decide_eq_false fun h2 => hno ⟨by rw [hg]; omega, h1, h2⟩]; rfl
      · rw [Bool.eq_false_iff.2 h1]; rfl
    · rw [← hrd, hok.2.1, decide_eq_true hok.2.2]; rfl
theorem strs_ne8 {l m : List Int} (hl : Byt l) (hm : Byt m) (h : l ≠ m) : ((strOfNums l).toList == (strOfNums m).toList) = false := by
  rw [ByteArray.toList_eq, ByteArray.toList_eq, beq_eq_false_iff_ne]
  exact fun hh => h (strOf_inj hl hm hh)
theorem rDecD_len {w : World} (ao : Option Addr) (len cap : Nat) (h : len ≠ 256) : Calls Try.prog 17 #[.slice ao len cap] w fun e w' => e = .returned (.tuple #[.slice none 0 0, .int .i64 18]) ∧ w = w' := by
  have hne : ((len : Int) != 256) = true := by simp; omega
  go_enter Try.func17, Try.ntmps17
  go_wp2
  go_ret2
  exact ⟨rfl, rfl⟩
theorem decR_key {w : World} {l : List Int} (k : Nat) (u : Value) (W : World) (hk : k ≤ 16) (h1 : ∀ j, j < k → okR (chunk8 l j)) (h2 : k < 16 → ¬ okR (chunk8 l k)) (hu : ESl W u (rdTo8 l k)) (hb : Below w.heap.size w W) :
    (∃ O, O = rdTo8 l k ∧ IsBlk O l ∧ Calls Try.prog 9 #[u] W fun e w' => ∃ u', e = .returned (.tuple #[u', .int .i64 0]) ∧ BSl w' u' l ∧ Below W.heap.size W w') ∨
    ((∀ O, ¬ IsBlk O l) ∧ ∃ (m : List Int) (E : Int), m ≠ l ∧ Calls Try.prog 9 #[u] W fun e w' => ∃ u', e = .returned (.tuple #[u', .int .i64 E]) ∧ BSl w' u' m ∧ Below W.heap.size W w') := by
  have ha : allE (rdTo8 l k) = true := allE_yes (by rw [rdTo8_length]; exact hk) fun x hx => by
    obtain ⟨j, hj, rfl⟩ := List.getElem_of_mem hx
    rw [rdTo8_length] at hj
    have := (h1 j hj).2.1
    simpa [rdTo8] using this
  by_cases he : encD (rdTo8 l k) = l
  · refine .inl ⟨_, rfl, ⟨ha, he⟩, (rEncD_any hu).mono ?_⟩
    rintro e w' (⟨_, u', h3, ho, hb⟩ | ⟨ht, _⟩)
    · refine ⟨u', h3, ?_, hb⟩
      rw [he] at ho; exact ho.bsl
    · rw [ha] at ht; cases ht
  · refine .inr ⟨fun O hO => ?_, encD (rdTo8 l k), 0, he, (rEncD_any hu).mono ?_⟩
    · have := dec_shape okR (fun e => okR_enc) okR_zero hk h1 h2 hO
      rw [this] at he; exact he hO.2
    · rintro e w' (⟨_, u', h3, ho, hb⟩ | ⟨ht, _⟩)
      · exact ⟨u', h3, ho.bsl, hb⟩
      · rw [ha] at ht; cases ht
set_option maxHeartbeats 1000000 in
theorem rDecD_256 {w : World} {v : Value} {l : List Int} (hs : BSl w v l) (hl : l.length = 256) : Calls Try.prog 17 #[v] w (DecT8 l w) := by
  obtain ⟨b, off, cap, rfl, hcap, hb⟩ := hs.open' (by omega)
  have HS := Lib.hid hs
  have HMID := Lib.hid (fun W (h : BSl W (.slice (some ⟨b, off, none⟩) l.length cap) l) lo m (hm : lo + m ≤ l.length) => h.mid lo m hm)
  have HRS := Lib.hid (fun k => rdTo8_succ l k)
  have HRL := Lib.hid (fun k => rdTo8_length l k)
  have KEY := Lib.hid (fun k u W => decR_key (w := w) (l := l) k u W)
  have HDL := Lib.hid (fun k => List.length_drop (i := k) (l := l))
  rw [hl] at HS HMID hcap HDL ⊢
  have u2 := Try.underlying22
  have H0 : Hid (ER w w.heap.size 34 (.slice none 0 0) (rdTo8 l 0)) := Lib.hid (er_nil _ _ _)
  clear hs hl
  go_enter Try.func17, Try.ntmps17
  go_wp2
  go_loopw [4, 13] (fun u i wr => ∃ k : Nat, k ≤ 16 ∧ i = .int .i64 k ∧ Hid (ER wr w.heap.size 34 u (rdTo8 l k)) ∧ Hid (∀ j, j < k → okR (chunk8 l j)) ∧ Below w.heap.size w wr) (fun _ i _ => 16 - (intOf i).toNat)
  case atStart => exact ⟨0, by omega, rfl, H0, fun j hj => absurd hj (Nat.not_lt_zero _), Below.refl _ _⟩
  case round =>
    obtain ⟨k, hk, rfl, HU, HK, hbr⟩ := hrel
    clear H0
    by_cases hlt : k < 16
    · have ek : (k : Int) < 16 := by omega
      have hsr := HMID.out _ (HS.out.below hbr) (k * 16) (256 - k * 16) (by omega)
      have hll : ((l.drop (k * 16)).take (256 - k * 16)).length = 256 - k * 16 := by rw [List.length_take, HDL.out]; omega
      have KR := rReadE_of hsr (by rw [hll]; omega) (by rw [hll]; omega)
      have hch : ((l.drop (k * 16)).take (256 - k * 16)).take 16 = chunk8 l k := by rw [List.take_take, Nat.min_eq_left (by omega)]; rfl
      rw [hch] at KR
      have hrs := HRS.out k
      obtain ⟨⟨x, y⟩, hx⟩ : ∃ x, x = rdE (chunk8 l k) := ⟨_, rfl⟩
      rw [← hx] at KR hrs
      have HE1 : Hid ((16 : Int) * (k : Int) = ((k * 16 : Nat) : Int)) := Lib.hid (by push_cast; omega)
      have hc2 : k * 16 ≤ 256 := by omega
      have hc3 : k * 16 < cap := by omega
      have HNX := Lib.hid hrs
      have HLK : Hid ((rdTo8 l k).length ≤ 1000000) := Lib.hid (by rw [HRL.out]; omega)
      by_cases hok : okR (chunk8 l k)
      · have KY := Lib.hid (KR.2 hok)
        have HOK := Lib.hid hok
        clear hx hsr hch KR hrs hok hll
        go_wp2_with (first
          | (with_reducible refine wpList_slice_l rfl (.tmp 17) (.tmp 19) rfl b off 256 cap rfl (16 * (k : Int)) rfl (k * 16) HE1.out hc2 hcap hc3 ?_)
          | (go_at_call 23; refine KY.out.mono ?_; rintro e w3 ⟨rfl, hb3⟩
             have HB3 := Lib.hid (hb3.trans ((below_box w3 (.cells #[.int .i64 x, .string y] 34)).mono hb3.size))
             have HN3 := Lib.hid (HU.out.below HB3.out)
             have HBR3 := Lib.hid (hbr.trans (HB3.out.mono hbr.size)))
          | (at_builtin; refine wpList_append_ent_at _ x y rfl 22 34 (.tmp 26) (.tmp 28) rfl u2 infoRE w.heap.size _ (rdTo8 l k) rfl HN3.out HLK.out (w3.heap.size + 1) rfl (by simp) HBR3.out.size ?_
             intro v7 w7 hob7 hb7))
        go_roundw
        case rel =>
          refine ⟨k + 1, by omega, by go_num, by show ER _ _ _ _ (rdTo8 l (k + 1)); rw [HNX.out]; exact hob7, fun j hj => ?_, HBR3.out.trans hb7⟩
          by_cases e : j = k
          · subst e; exact HOK.out
          · exact HK.out j (by omega)
        case measure => simp [intOf]; omega
      · have KN := Lib.hid (KR.1 hok)
        have HOK := Lib.hid hok
        clear hx hsr hch KR hrs hok hll
        go_wp2_with (first
          | (with_reducible refine wpList_slice_l rfl (.tmp 17) (.tmp 19) rfl b off 256 cap rfl (16 * (k : Int)) rfl (k * 16) HE1.out hc2 hcap hc3 ?_)
          | (go_at_call 23; refine KN.out.mono ?_; rintro e w3 ⟨⟨i3, s3, rfl⟩, hb3⟩
             have HB3 := Lib.hid (hb3.trans ((below_box w3 (.cells #[.int .i64 i3, .string s3] 34)).mono hb3.size))
             have HN3 := Lib.hid (HU.out.below HB3.out)
             have HBR3 := Lib.hid (hbr.trans (HB3.out.mono hbr.size))))
        have HV3 := Lib.hid (HS.out.below HBR3.out)
        have KK := KEY.out k _ _ (by omega) HK.out (fun _ => HOK.out) HN3.out.sl HBR3.out
        clear KEY
        rcases KK with ⟨O, hO, hblk, hcall⟩ | ⟨hno, m, E, hE, hcall⟩
        · have HBK := Lib.hid hblk
          have HC := Lib.hid hcall
          have HO := Lib.hid hO
          have HU3 := Lib.hid HN3.out.sl
          clear hO hblk hcall
          go_wp2_with (go_at_call 9; refine HC.out.mono ?_; rintro e w4 ⟨u4, rfl, hu4, hb4⟩
                       have q1 := conv_bsl hu4
                       have q2 := conv_bsl (HV3.out.below hb4))
          go_ret2
          exact .inl ⟨O, HBK.out, _, rfl, by rw [HO.out]; exact HU3.out.below hb4, HBR3.out.trans (hb4.mono HBR3.out.size)⟩
        · have HN := Lib.hid hno
          have HC := Lib.hid hcall
          have HNE := Lib.hid hE
          clear hno hcall hE
          go_wp2_with (go_at_call 9; refine HC.out.mono ?_; rintro e w4 ⟨u4, rfl, hu4, hb4⟩
                       have q1 := conv_bsl hu4
                       have q2 := conv_bsl (HV3.out.below hb4)
                       have q3 := strs_ne8 hu4.1 HS.out.1 HNE.out)
          go_ret2
          exact .inr ⟨HN.out, rfl, HBR3.out.trans (hb4.mono HBR3.out.size)⟩
    · obtain rfl : k = 16 := by omega
      have HBR := Lib.hid hbr
      have HV3 := Lib.hid (HS.out.below HBR.out)
      have KK := KEY.out 16 _ _ (by omega) HK.out (fun h => absurd h (Nat.lt_irrefl _)) HU.out.sl HBR.out
      clear KEY
      rcases KK with ⟨O, hO, hblk, hcall⟩ | ⟨hno, m, E, hE, hcall⟩
      · have HBK := Lib.hid hblk
        have HC := Lib.hid hcall
        have HO := Lib.hid hO
        have HU3 := Lib.hid HU.out.sl
        clear hO hblk hcall
        go_wp2_with (go_at_call 9; refine HC.out.mono ?_; rintro e w4 ⟨u4, rfl, hu4, hb4⟩
                     have q1 := conv_bsl hu4
                     have q2 := conv_bsl (HV3.out.below hb4))
        go_ret2
        exact .inl ⟨O, HBK.out, _, rfl, by rw [HO.out]; exact HU3.out.below hb4, HBR.out.trans (hb4.mono HBR.out.size)⟩
      · have HN := Lib.hid hno
        have HC := Lib.hid hcall
        have HNE := Lib.hid hE
        clear hno hcall hE
        go_wp2_with (go_at_call 9; refine HC.out.mono ?_; rintro e w4 ⟨u4, rfl, hu4, hb4⟩
                     have q1 := conv_bsl hu4
                     have q2 := conv_bsl (HV3.out.below hb4)
                     have q3 := strs_ne8 hu4.1 HS.out.1 HNE.out)
        go_ret2
        exact .inr ⟨HN.out, rfl, HBR.out.trans (hb4.mono HBR.out.size)⟩
theorem rDecD_any {w : World} {v : Value} {l : List Int} (hs : BSl w v l) : Calls Try.prog 17 #[v] w (DecT8 l w) := by
  by_cases h : l.length = 256
  · exact rDecD_256 hs h
  · obtain ⟨ao, cap, rfl, _⟩ := hs.shape
    exact (rDecD_len ao _ cap h).mono fun e w' ⟨he, hw⟩ => .inr ⟨fun O hO => h (isBlk_len hO), he, by rw [← hw]; exact Below.refl _ _⟩
/-- Decode of both sides. -/
theorem dec_both8 (b : List Int) : ∃ (O : List (Int × ByteArray)) (E : Int), O.length ≤ 16 ∧ (E = 0 ∧ IsBlk O b ∨ E = 18 ∧ ∀ O', ¬ IsBlk O' b) ∧
    (∀ (W : World) (v : Value), BSl W v b → Calls Try.prog 14 #[v] W fun e w' => ∃ u, e = .returned (.tuple #[u, .int .i64 E]) ∧ ESl w' u O ∧ Below W.heap.size W w') ∧
    (∀ (W : World) (v : Value), BSl W v b → Calls Try.prog 17 #[v] W fun e w' => ∃ u, e = .returned (.tuple #[u, .int .i64 E]) ∧ ESl w' u O ∧ Below W.heap.size W w') := by
  by_cases h : ∃ O, IsBlk O b
  · obtain ⟨O, hO⟩ := h
    have key : ∀ (W : World) (e : Ending) (w' : World), DecT8 b W e w' → ∃ u, e = .returned (.tuple #[u, .int .i64 0]) ∧ ESl w' u O ∧ Below W.heap.size W w' := by
      rintro W e w' (⟨O', h', u, he, ho, hb⟩ | ⟨h', _, _⟩)
      · rw [isBlk_one hO h']; exact ⟨u, he, ho, hb⟩
      · exact absurd hO (h' O)
    exact ⟨O, 0, (allE_mem hO.1).1, .inl ⟨rfl, hO⟩, fun W v hs => (eDec_any hs).mono (key W), fun W v hs => (rDecD_any hs).mono (key W)⟩
  · have hn : ∀ O, ¬ IsBlk O b := fun O hO => h ⟨O, hO⟩
    have key : ∀ (W : World) (e : Ending) (w' : World), DecT8 b W e w' → ∃ u, e = .returned (.tuple #[u, .int .i64 18]) ∧ ESl w' u [] ∧ Below W.heap.size W w' := by
      rintro W e w' (⟨O', h', _⟩ | ⟨h', he, hb⟩)
      · exact absurd h' (hn O')
      · exact ⟨_, he, esl_nil _, hb⟩
    exact ⟨[], 18, Nat.zero_le _, .inr ⟨rfl, hn⟩, fun W v hs => (eDec_any hs).mono (key W), fun W v hs => (rDecD_any hs).mono (key W)⟩
end Go.Proofs.Yteemjhnlnjkjcaa
