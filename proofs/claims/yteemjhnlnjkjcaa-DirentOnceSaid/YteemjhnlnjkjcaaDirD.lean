/- The reference's Spelt, EncodeDir. -/
import Derived.Test.YteemjhnlnjkjcaaDirC
import Derived.Test.YteemjhnlnjkjcaaMemZ
namespace Go.Proofs.Yteemjhnlnjkjcaa
open Go.RowKit
set_option linter.unusedVariables false

/-- append of a []byte that is not empty onto a []byte of one's own, as one step of a region that draws. -/
theorem step_append_bytes8 {ops : Array Oper} {o : Oper} {a : Act} {w : World} {K : Act → World → Prop} {Q : Exit → Act → World → Prop} {E : Prop} (hgd : o.guard = none) (s x : Operand)
    (ho : o.op = .call { callee := .builtin .append, args := #[s, x], argTypes := #[24, 24] })
    (B : Nat) (v : Value) (l : List Int) (hs : a.eval s = v) (hown : OB w B v l) (u : Value) (m : List Int) (hx : a.eval x = u) (hr : BSl w u m) (hm : 0 < m.length)
    (hlen : l.length + m.length ≤ 140737488355328) (hB : B ≤ w.heap.size)
    (h : ∀ v' w', OB w' B v' (l ++ m) → Below B w w' → w.grownBy w' v.ownBlock → K (a.put o.dst v') w') :
    if Region.wanted o (yielded ops a.tmps) = true then Oper.wp Try.prog o a w K Q else E := by
  have hw : Region.wanted o (yielded ops a.tmps) = true := by simp [Region.wanted, hgd]
  rw [if_pos hw]
  obtain ⟨i, h2, h3, h4, h5⟩ := info_parts infoU8
  obtain ⟨ao, cap, rfl, hcap⟩ := hr.shape
  have hby := byt_append hown.1 hr.1
  have e1 : (l ++ m).length = l.length + m.length := List.length_append
  have e2 : (l ++ m).map (Value.int .u8) = l.map (Value.int .u8) ++ m.map (Value.int .u8) := List.map_append
  cases ao with
  | none =>
    rcases hr.2 with ⟨_, hl⟩ | ⟨_, _, hv, _⟩
    · rw [hl] at hm; simp at hm
    · simp at hv
  | some ad =>
    have hcells : ∀ j v, (m.map (Value.int .u8))[j]? = some v → w.cell? (ad.add j) = some v := by
      intro j v hj
      have hjl : j < m.length := by simpa using (List.getElem?_eq_some_iff.1 hj).1
      obtain ⟨ad', he, hc⟩ := src_cells hr (fun _ _ => rfl) m.length (by simp; omega)
      obtain rfl : ad = ad' := by simpa using he
      exact hc j v (by simpa using hj)
    refine wp_append_own w s x 24 ho B 5 i (.int .u8 0) 1 1 Try.underlying24 h2 h3 h4 h5 rfl (by decide) v l.length _ hs hown.2 ad m.length cap _ hx (by simp) hcells (ints_oneCell _ _) (by simp only [maxLen]; omega) (by omega) hB fun v' w' h6 h7 _ => ?_
    exact h v' w' ⟨hby, by rw [e1, e2]; exact h6⟩ ((Below.refl _ _).grown h7 hB fun k hk => (hown.2.lt k hk).1) h7
/-- append of a string, likewise. -/
theorem step_append_str {ops : Array Oper} {o : Oper} {a : Act} {w : World} {K : Act → World → Prop} {Q : Exit → Act → World → Prop} {E : Prop} (hgd : o.guard = none) (s x : Operand)
    (ho : o.op = .call { callee := .builtin .append, args := #[s, x], argTypes := #[24, 9] })
    (B : Nat) (v : Value) (l : List Int) (hs : a.eval s = v) (hown : OB w B v l) (n : ByteArray) (hx : a.eval x = .string n) (hlen : l.length + n.size ≤ 1000000) (hB : B ≤ w.heap.size)
    (h : ∀ v' w', OB w' B v' (l ++ strB n) → Below B w w' → w.grownBy w' v.ownBlock → K (a.put o.dst v') w') :
    if Region.wanted o (yielded ops a.tmps) = true then Oper.wp Try.prog o a w K Q else E := by
  have hw : Region.wanted o (yielded ops a.tmps) = true := by simp [Region.wanted, hgd]
  rw [if_pos hw]
  obtain ⟨i, h2, h3, h4, h5⟩ := info_parts infoU8
  obtain ⟨v', w', hr, h6, h7, _⟩ := Lib.run_append_own_string (P := Try.prog) w B 24 9 o.type 5 i Try.underlying24 Try.underlying9 h2 h3 h4 h5 v l.length _ hown.2 n (by simp only [maxLen]; omega) (by omega) hB
  unfold Oper.wp execOp
  simp only [ho, resolve, invoke, builtin, Sem.run_bind, Sem.run_pure, Result.andThen_ok, List.map_toArray, List.map_cons, List.map_nil, hs, hx, hr]
  refine h v' w' ⟨byt_append hown.1 (strB_byt n), ?_⟩ ((Below.refl _ _).grown h7 hB fun k hk => (hown.2.lt k hk).1) h7
  rw [List.length_append, List.map_append, strB_length, ← strB_cells]; exact h6
theorem grown_keep8 {w w' : World} {row : Option Nat} (h : w.grownBy w' row) (b o : Nat) (hb : b < w.heap.size) (hne : ∀ k, row = some k → k ≠ b) : w'.cell? ⟨b, o, none⟩ = w.cell? ⟨b, o, none⟩ := by
  apply World.cell?_of_block
  exact h.block b hb (fun e => hne b e.symm rfl)
/-- A slice of one byte. -/
theorem bsl_one (W : World) (x : Int) (h : 0 ≤ x ∧ x ≤ 255) : BSl (W.alloc (.cells #[.int .u8 x] 5)) (.slice (some ⟨W.heap.size, 0, none⟩) 1 1) [x] := by
  have hnew := heap_alloc_new W (.cells #[.int .u8 x] 5)
  refine ⟨byt_single x h, .inr ⟨_, 1, rfl, Nat.le_refl _, fun j hj => ?_⟩⟩
  have hj0 : j = 0 := by simpa using hj
  subst hj0
  refine ⟨by simp, rfl, ?_⟩
  rw [cell_of_row _ _ _ _ _ _ hnew]; rfl
set_option maxHeartbeats 1000000 in
theorem rSpelt_of (i : Int) (s : ByteArray) (h : frmE (i, s) = true) (w : World) : Calls Try.prog 19 #[.agg #[.int .i64 i, .string s]] w (NewB w (encE (i, s))) := by
  have hn := frmE_num h
  have hl : s.size ≤ 13 := (frmE_len h).2
  have hi0 : 1 ≤ i := hn.1
  have hi1 : i < 48 := hn.2.1
  obtain ⟨z, hz⟩ : ∃ z : Int, z = (s.size : Int) := ⟨_, rfl⟩
  have hz0 : 0 ≤ z ∧ z ≤ 13 := by omega
  have HP : Hid (encE (i, s) = ((([] ++ lowB i 2) ++ [z]) ++ strB s) ++ List.replicate (16 - (3 + s.size)) 0) := Lib.hid (by
    rw [encE, hdE_parts1, hz]; congr 2; show 13 - s.size = _; omega)
  have hwx : IntKind.u64.wrap i = i := IntWalk.u64_in _ (by omega)
  have hw8 : IntKind.u8.wrap z = z := by rw [IntKind.wrap_u8]; omega
  rw [hz] at hw8
  have K1 := Lib.hid (fun W => rPut_at (bsl_nil W) (by simp) i 2 2 (by omega) (by omega) rfl (by omega) (by omega))
  have HL1 : Hid (([] ++ lowB i 2 : List Int).length + [z].length ≤ 140737488355328) := Lib.hid (by simp [lowB_length])
  have HL2 : Hid ((([] ++ lowB i 2) ++ [z] : List Int).length + s.size ≤ 1000000) := Lib.hid (by simp [lowB_length]; omega)
  have HL3 : Hid (((([] ++ lowB i 2) ++ [z]) ++ strB s : List Int).length = 3 + s.size) := Lib.hid (by simp [lowB_length, strB_length]; omega)
  have hb1 := below_box w (.cells #[.int .i64 i, .string s] 34)
  have hh1 := heap_alloc_new w (.cells #[.int .i64 i, .string s] 34)
  obtain ⟨W1, hW1⟩ : ∃ W1, W1 = w.alloc (.cells #[.int .i64 i, .string s] 34) := ⟨_, rfl⟩
  rw [← hW1] at hb1 hh1
  have H1 : Hid (w.alloc (.cells #[.int .i64 i, .string s] 34) = W1) := Lib.hid hW1.symm
  have hsz : w.heap.size < W1.heap.size := by rw [hW1]; simp
  have HC1 : Hid (W1.cell? ⟨w.heap.size, 1, none⟩ = some (.string s)) := Lib.hid (by rw [cell_of_row _ _ _ _ _ _ hh1]; rfl)
  have HB1 := Lib.hid hb1
  have HZ := Lib.hid hz
  clear hn h hW1 hh1 hb1 hz
  go_enter Try.func19, Try.ntmps19
  go_wp2_with (first
    | (go_at_call 25; rw [H1.out]; (with_reducible refine (K1.out _).mono ?_); rintro e w2 ⟨v2, rfl, hob2, hb2⟩))
  have d1 : w2.drew.cell? ⟨w.heap.size, 1, none⟩ = some (.string s) := (hb2.cell (p := ⟨w.heap.size, 1, none⟩) hsz).trans HC1.out
  have hsz2 : w.heap.size < w2.drew.heap.size := Nat.lt_of_lt_of_le hsz hb2.size
  have HB2 : Hid (Below w.heap.size w w2.drew) := Lib.hid (below_drewN' (HB1.out.trans (hb2.mono (Nat.le_of_lt hsz))) 1)
  have hba := below_box w2.drew (.cells #[.int .u8 (s.size : Int)] 5)
  have hbs := bsl_one w2.drew (s.size : Int) (by have := HZ.out; omega)
  have e1 : (w2.drew.alloc (.cells #[.int .u8 (s.size : Int)] 5)).cell? ⟨w.heap.size, 1, none⟩ = some (.string s) := (hba.cell (p := ⟨w.heap.size, 1, none⟩) hsz2).trans d1
  have HOA : Hid (OB (w2.drew.alloc (.cells #[.int .u8 (s.size : Int)] 5)) W1.heap.size v2 ([] ++ lowB i 2)) := Lib.hid (OB.below (w := w2.drew) hob2 hba)
  have hsa : w.heap.size < (w2.drew.alloc (.cells #[.int .u8 (s.size : Int)] 5)).heap.size := Nat.lt_of_lt_of_le hsz2 hba.size
  have HSA : Hid (W1.heap.size ≤ (w2.drew.alloc (.cells #[.int .u8 (s.size : Int)] 5)).heap.size) := Lib.hid (Nat.le_trans hb2.size hba.size)
  have HBA := Lib.hid (HB2.out.trans (hba.mono HB2.out.size))
  have HBS := Lib.hid hbs
  rw [HZ.out] at HL1 HL2 HL3 HP
  have HNE := Lib.hid (fun k (hk : v2.ownBlock = some k) => (show k ≠ w.heap.size by have h1 := hob2.2.lt k hk; omega))
  clear hba hbs hob2 hb2 hz0
  go_region_held3 (fun W => W.cell? ⟨w.heap.size, 1, none⟩ = some (.string s)) (first | exact g1 | exact f1 | exact e1 | exact d1) (first
    | (refine step_append_bytes8 rfl (.tmp 8) (.tmp 13) rfl W1.heap.size v2 ([] ++ lowB i 2) rfl HOA.out _ [(s.size : Int)] rfl HBS.out (Nat.zero_lt_one) HL1.out HSA.out ?_
       intro v3 w3 hob3 hb3 hg3
       have f1 := (grown_keep8 hg3 w.heap.size 1 hsa HNE.out).trans e1
       have hs3 := Nat.lt_of_lt_of_le hsa hb3.size
       have HS3 := Lib.hid (Nat.le_trans HSA.out hb3.size)
       have HB3 := Lib.hid (HBA.out.trans (hb3.mono (Nat.le_of_lt hsz))))
    | (refine step_append_str rfl (.tmp 14) (.tmp 16) rfl W1.heap.size v3 (([] ++ lowB i 2) ++ [(s.size : Int)]) rfl hob3 s rfl HL2.out HS3.out ?_
       intro v4 w4 hob4 hb4 hg4
       have g1 := (grown_keep8 hg4 w.heap.size 1 hs3 (fun k hk => (show k ≠ w.heap.size by have h1 := hob3.2.lt k hk; omega))).trans f1
       have HS4 := Lib.hid (Nat.le_trans HS3.out hb4.size)
       have HB4 := Lib.hid (HB3.out.trans (hb4.mono (Nat.le_of_lt hsz)))))
  obtain ⟨ao4, cap4, rfl, _⟩ := hob4.bsl.shape
  have HOB4 := Lib.hid hob4
  rw [HL3.out] at HOB4 ⊢
  obtain ⟨N, hN⟩ : ∃ N, N = 3 + s.size := ⟨_, rfl⟩
  rw [← hN] at HOB4 HL3 HP ⊢
  have hN16 : N ≤ 16 := by omega
  have HLE : Hid ((([] ++ lowB i 2) ++ [(s.size : Int)] ++ strB s).length + (16 - N) ≤ 140737488355328) := Lib.hid (by rw [HL3.out]; omega)
  have HM : Hid ((16 : Int) - (N : Int) = ((16 - N : Nat) : Int)) := Lib.hid (by omega)
  clear hN hob4 hb4 hg4 g1 f1 e1 d1 hs3 hsa hob3 hb3 hg3
  go_wp2_with (at_builtin; refine wpList_append_zeros w4 rfl (.tmp 18) (.tmp 21) rfl W1.heap.size _ (([] ++ lowB i 2) ++ [(s.size : Int)] ++ strB s) rfl HOB4.out _ (16 - N) rfl HM.out HLE.out HS4.out ?_; intro v8 w8 hob8 hb8)
  go_ret
  refine ⟨_, rfl, ?_, HB4.out.trans (hb8.mono (Nat.le_of_lt hsz))⟩
  rw [HP.out]
  exact hob8.more (Nat.le_of_lt hsz)
end Go.Proofs.Yteemjhnlnjkjcaa
