/- Slices of inodes; contract of package inode: Encode. -/
import Derived.Test.YtbikbglkecbgjaaInoG
namespace Go.Proofs.Ytbikbglkecbgjaa
open Go.RowKit
set_option linter.unusedVariables false

theorem infoN7 : (Try.prog.info? 39).map (·.size) = some 14 := by kernel_rfl
theorem wpList_store_nums {ops : Array Oper} {rest : List Oper} {o : Oper} {a : Act} {w : World} {Q : Exit → Act → World → Prop} (hgd : o.guard = none) (T : TypeId) (x y : Operand) (ho : o.op = .store T x y)
    (g : Nat) (hx : a.eval x = .pointer (some ⟨g, 0, none⟩)) (L D : List Int) (hy : a.eval y = .agg (iC L).toArray) (hLD : D.length = L.length) (hi : (Try.prog.info? T).map (·.size) = some L.length) (T' : TypeId) (hg : w.heap[g]? = some (iO D T'))
    (h : ∀ w', Wrote w w' g → w'.heap[g]? = some (iO L T') → wpList Try.prog ops Q rest (a.put o.dst undef) w') : wpList Try.prog ops Q (o :: rest) a w :=
  wpList_store_row hgd T x y ho g _ hx hy T' _ hg (by rw [hi]; simp [iC]) (by simp [iC, hLD]) (all_oneCell_toArray (iC_one L)) (h _ (Wrote.setRow _ _ _) (setRow_heap _ _ _ _ _ _ hg))

/-- A value of type []Inode (of the code or of the reference) that reads as O. -/
def NSl (w : World) (v : Value) (O : List (List Int)) : Prop :=
  Len14 O ∧ ((v = .slice none 0 0 ∧ O = []) ∨ ∃ a cap, v = .slice (some a) O.length cap ∧ ∀ j, j < O.length → a.block < w.heap.size ∧ a.spot = none ∧ w.rangeAt a.block (a.off + j * 14) (iC (O.getD j [])))
theorem len14_nil : Len14 [] := fun x hx => by simp at hx
theorem nsl_nil (w : World) : NSl w (.slice none 0 0) [] := ⟨len14_nil, .inl ⟨rfl, rfl⟩⟩
theorem NSl.below {w w' : World} {v : Value} {O : List (List Int)} (h : NSl w v O) (hb : Below w.heap.size w w') : NSl w' v O := by
  refine ⟨h.1, ?_⟩
  rcases h.2 with h | ⟨a, cap, hv, hc⟩
  · exact .inl h
  · refine .inr ⟨a, cap, hv, fun j hj => ?_⟩
    obtain ⟨h1, h2, h3⟩ := hc j hj
    exact ⟨Nat.lt_of_lt_of_le h1 hb.size, h2, range_low h3 hb h1⟩
theorem NSl.open' {w : World} {v : Value} {O : List (List Int)} (h : NSl w v O) : ∃ ao cap, v = .slice ao O.length cap ∧ (0 < O.length → ∃ b off, ao = some ⟨b, off, none⟩ ∧ b < w.heap.size ∧
    ∀ j, j < O.length → w.rangeAt b (off + j * 14) (iC (O.getD j []))) := by
  rcases h.2 with ⟨hv, hk⟩ | ⟨⟨b, off, spot⟩, cap, hv, hc⟩
  · exact ⟨none, 0, by rw [hv, hk]; rfl, fun h => by rw [hk] at h; simp at h⟩
  · refine ⟨_, cap, hv, fun h0 => ?_⟩
    obtain ⟨h1, h2, _⟩ := hc 0 h0
    obtain rfl : spot = none := h2
    exact ⟨b, off, rfl, h1, fun j hj => (hc j hj).2.2⟩
theorem NSl.shape {w : World} {v : Value} {O : List (List Int)} (h : NSl w v O) : ∃ ao cap, v = .slice ao O.length cap := by
  obtain ⟨ao, cap, hv, _⟩ := h.open'
  exact ⟨ao, cap, hv⟩
theorem NSl.at {w : World} {v : Value} {O : List (List Int)} (h : NSl w v O) (h0 : 0 < O.length) : ∃ b off cap, v = .slice (some ⟨b, off, none⟩) O.length cap ∧ b < w.heap.size ∧ ∀ j, j < O.length → w.rangeAt b (off + j * 14) (iC (O.getD j [])) := by
  obtain ⟨ao, cap, hv, hc⟩ := h.open'
  obtain ⟨b, off, rfl, h1, h2⟩ := hc h0
  exact ⟨b, off, cap, hv, h1, h2⟩

theorem iEnc_len {w : World} (ao : Option Addr) (len cap : Nat) (h : len ≠ 8) : Calls Try.prog 6 #[.slice ao len cap] w fun e w' => e = .returned (.tuple #[.slice none 0 0, .int .i64 1]) ∧ w = w' := by
  have hne : ((len : Int) != 8) = true := by simp; omega
  go_enter Try.func6, Try.ntmps6
  go_wp2
  go_ret2
  exact ⟨rfl, rfl⟩
/-- What Encode hands back. -/
def EncT7 (O : List (List Int)) (w : World) (e : Ending) (w' : World) : Prop :=
  (allF O = true ∧ ∃ u, e = .returned (.tuple #[u, .int .i64 0]) ∧ OB w' w.heap.size u (encT O) ∧ Below w.heap.size w w') ∨
  (allF O = false ∧ e = .returned (.tuple #[.slice none 0 0, .int .i64 1]) ∧ Below w.heap.size w w')
theorem iEnc_8 {w : World} {v : Value} {O : List (List Int)} (hs : NSl w v O) (h8 : O.length = 8) : Calls Try.prog 6 #[v] w (EncT7 O w) := by
  obtain ⟨b, off, cap, rfl, hb, hc⟩ := hs.at (by omega)
  have H14 := Lib.hid hs.1
  have HYE := Lib.hid (allF_yes h8)
  have HNO := Lib.hid (fun k hk h => allF_no (k := k) h8 hk h)
  have H8 := Lib.hid h8
  obtain ⟨M, hMM⟩ : ∃ M : Nat, M = 256 := ⟨_, rfl⟩
  have HMI : Hid ((256 : Int) = (M : Int)) := Lib.hid (by omega)
  have hM1 : M ≤ 1000 := by omega
  rw [h8] at hc ⊢
  have HC := Lib.hid hc
  clear hs hc h8 hMM
  go_enter Try.func6, Try.ntmps6
  go_wp2_with (at_make; refine wpList_make_u8c _ rfl _ _ rfl 0 256 0 M rfl rfl rfl HMI.out (Nat.zero_le _) (by omega) ?_)
  have HOB3 := Lib.hid (ob_made w M hM1)
  have hbw3 : Below w.heap.size w (w.alloc (.cells (Array.replicate M (.int .u8 0)) 5)) := below_box _ _
  generalize w.alloc (.cells (Array.replicate M (.int .u8 0)) 5) = w3 at HOB3 hbw3 ⊢
  go_loopw [4, 13] (fun u i wr => ∃ k : Nat, k ≤ 8 ∧ i = .int .i64 k ∧ Hid (OB wr w.heap.size u (encK7 O k)) ∧ Hid (∀ j, j < k → frmI (O.getD j []) = true) ∧ Below w.heap.size w wr) (fun _ i _ => 8 - (intOf i).toNat)
  case atStart => exact ⟨0, by omega, rfl, HOB3, fun j hj => absurd hj (Nat.not_lt_zero _), hbw3⟩
  case round =>
    obtain ⟨k, hk, rfl, HOB, HK, hbr⟩ := hrel
    clear HOB3 hbw3
    by_cases hlt : k < 8
    · have hrg := range_low (HC.out k hlt) hbr hb
      have hno := HNO.out k hlt
      have h14 := len14_get H14.out k (by rw [H8.out]; exact hlt)
      have hpk : encK7 O (k + 1) = encK7 O k ++ enc7 (O.getD k []) := rfl
      obtain ⟨x, hx⟩ : ∃ x, x = O.getD k [] := ⟨_, rfl⟩
      rw [← hx] at hrg hpk hno h14
      have ek : (k : Int) < 8 := by omega
      have HX := Lib.hid hx
      have HPK := Lib.hid hpk
      have HL := Lib.hid (encK7_length O k)
      have HN1 := Lib.hid hno
      have HRG := Lib.hid hrg
      have HX14 : Hid (zeroI.length = x.length) := Lib.hid h14.symm
      have HI14 : Hid ((Try.prog.info? 39).map (·.size) = some x.length) := Lib.hid (by rw [infoN7, h14])
      have hz : (wr.alloc (.cells #[.int .i64 0, .int .i64 0, .int .i64 0, .int .i64 0, .int .i64 0, .int .i64 0, .int .i64 0, .int .i64 0, .int .i64 0, .int .i64 0, .int .i64 0, .int .i64 0, .int .i64 0, .int .i64 0] 39)).heap[wr.heap.size]? = some (iO zeroI 39) := heap_alloc_new wr _
      have hbz := below_box wr (.cells #[.int .i64 0, .int .i64 0, .int .i64 0, .int .i64 0, .int .i64 0, .int .i64 0, .int .i64 0, .int .i64 0, .int .i64 0, .int .i64 0, .int .i64 0, .int .i64 0, .int .i64 0, .int .i64 0] 39)
      have hqz : wr.heap.size < (wr.alloc (.cells #[.int .i64 0, .int .i64 0, .int .i64 0, .int .i64 0, .int .i64 0, .int .i64 0, .int .i64 0, .int .i64 0, .int .i64 0, .int .i64 0, .int .i64 0, .int .i64 0, .int .i64 0, .int .i64 0] 39)).heap.size := by simp
      have HZ := Lib.hid hz
      have HBZ := Lib.hid hbz
      have HQZ := Lib.hid hqz
      have u1 := Try.underlying39
      obtain ⟨B, hf⟩ : ∃ B, frmI x = B := ⟨_, rfl⟩
      have HF := Lib.hid hf
      have KF := Lib.hid (iForm_is h14 B hf)
      have KW := Lib.hid (fun h => iWrite_of h14 (hf.trans h))
      clear hx hpk hno hrg h14 hz hbz hqz hf
      cases B
      · go_wp2_with (first
          | (with_reducible refine wpList_load_nums rfl 39 (.tmp 15) rfl b (off + k * 14) rfl x _ HRG.out u1 rfl HI14.out ?_)
          | (with_reducible refine wpList_store_nums rfl 39 (.tmp 6) (.tmp 16) rfl wr.heap.size rfl x zeroI rfl HX14.out HI14.out _ HZ.out ?_
             intro w4 hw4 hr4
             have hrg4 := io_range hr4
             have hb4 := HBZ.out.trans (hw4.below (Nat.le_refl _)))
          | (with_reducible refine wpList_load_nums rfl 39 (.tmp 6) rfl wr.heap.size 0 rfl x _ hrg4 u1 rfl HI14.out ?_)
          | (go_at_call 12; refine (KF.out _).mono ?_; rintro e w5 ⟨rfl, hb5⟩))
        go_ret2
        exact .inr ⟨HN1.out HF.out, rfl, (hbr.trans (hb4.mono hbr.size)).trans (hb5.mono (Nat.le_trans hbr.size hb4.size))⟩
      · have KWT := Lib.hid (KW.out rfl)
        clear KW
        go_wp2_with (first
          | (with_reducible refine wpList_load_nums rfl 39 (.tmp 15) rfl b (off + k * 14) rfl x _ HRG.out u1 rfl HI14.out ?_)
          | (with_reducible refine wpList_store_nums rfl 39 (.tmp 6) (.tmp 16) rfl wr.heap.size rfl x zeroI rfl HX14.out HI14.out _ HZ.out ?_
             intro w4 hw4 hr4
             have hrg4 := io_range hr4
             have hb4 := HBZ.out.trans (hw4.below (Nat.le_refl _)))
          | (with_reducible refine wpList_load_nums rfl 39 (.tmp 6) rfl wr.heap.size 0 rfl x _ hrg4 u1 rfl HI14.out ?_)
          | (go_at_call 12; refine (KF.out _).mono ?_; rintro e w5 ⟨rfl, hb5⟩
             have hrg5 := range_low hrg4 hb5 (Array.getElem?_eq_some_iff.1 hr4).1
             have HB5 := Lib.hid (hb4.trans (hb5.mono hb4.size))
             clear hrg4 hb4 hb5 hw4)
          | (with_reducible refine wpList_load_nums rfl 39 (.tmp 6) rfl wr.heap.size 0 rfl x _ hrg5 u1 rfl HI14.out ?_)
          | (go_at_call 21; refine (KWT.out _).mono ?_; rintro e w6 ⟨v6, rfl, hob6, hb6⟩
             have HB6 := Lib.hid (HB5.out.trans (hb6.mono HB5.out.size))
             have HB06 := Lib.hid (hbr.trans (HB6.out.mono hbr.size)))
          | (at_builtin
             refine wpList_append_bytes w6 rfl _ _ rfl w.heap.size _ (encK7 O k) rfl (HOB.out.below HB6.out) w6 v6 (enc7 x) rfl hob6.bsl (fun _ _ => rfl) (by rw [HL.out, enc7_length]; omega) HB06.out.size ?_
             intro v7 w7 hob7 hb7 _))
        go_roundw
        case rel =>
          refine ⟨k + 1, by omega, by go_num, by show OB _ _ _ (encK7 O (k + 1)); rw [HPK.out]; exact hob7, fun j hj => ?_, HB06.out.trans hb7⟩
          by_cases e : j = k
          · subst e; rw [← HX.out]; exact HF.out
          · exact HK.out j (by omega)
        case measure => simp [intOf]; omega
    · obtain rfl : k = 8 := by omega
      go_wp2
      go_ret2
      exact .inl ⟨HYE.out HK.out, _, rfl, HOB.out, hbr⟩
theorem iEnc_any {w : World} {v : Value} {O : List (List Int)} (hs : NSl w v O) : Calls Try.prog 6 #[v] w (EncT7 O w) := by
  by_cases h : O.length = 8
  · exact iEnc_8 hs h
  · obtain ⟨ao, cap, rfl⟩ := hs.shape
    refine (iEnc_len ao _ cap h).mono fun e w' ⟨he, hw⟩ => .inr ⟨?_, he, by rw [← hw]; exact Below.refl _ _⟩
    unfold allF; rw [decide_eq_false h]; rfl
end Go.Proofs.Ytbikbglkecbgjaa
