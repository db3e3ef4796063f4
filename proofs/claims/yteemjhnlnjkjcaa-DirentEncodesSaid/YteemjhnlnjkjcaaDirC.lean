/- Contracts of package dirent: write, Encode. -/
import Derived.Test.YteemjhnlnjkjcaaDirB
import Derived.Test.YteemjhnlnjkjcaaPackB
import Derived.Test.YteemjhnlnjkjcaaMemS
import Derived.Deep.RegionHeld3
namespace Go.Proofs.Yteemjhnlnjkjcaa
open Go.RowKit
set_option linter.unusedVariables false

theorem eWrite_of (i : Int) (s : ByteArray) (h : frmE (i, s) = true) (w : World) : Calls Try.prog 18 #[.agg #[.int .i64 i, .string s]] w (NewB w (hdE (i, s))) := by
  have hn := frmE_num h
  have hl : s.size ≤ 13 := (frmE_len h).2
  have hi0 : 1 ≤ i := hn.1
  have hi1 : i < 48 := hn.2.1
  have HP := Lib.hid (hdE_parts (i, s) hl)
  have hwx : IntKind.u64.wrap i = i := IntWalk.u64_in _ (by omega)
  have hws : IntKind.u64.wrap (s.size : Int) = (s.size : Int) := IntWalk.u64_in _ (by omega)
  have K1 := Lib.hid (fun W => pPut_at (bsl_nil W) (by simp) i 2 2 (by omega) (by omega) rfl (by omega) (by omega))
  have K2 := Lib.hid (fun W v (hv : BSl W v ([] ++ lowB i 2)) => pPut_at hv (by simp [lowB_length]) (s.size : Int) 1 1 (by omega) (by omega) rfl (by omega) (by omega))
  have HLE : Hid ((([] ++ lowB i 2) ++ lowB (s.size : Int) 1).length + s.size ≤ 1000000) := Lib.hid (by simp [lowB_length]; omega)
  have hb1 := below_box w (.cells #[.int .i64 i, .string s] 33)
  have hh1 := heap_alloc_new w (.cells #[.int .i64 i, .string s] 33)
  obtain ⟨W1, hW1⟩ : ∃ W1, W1 = w.alloc (.cells #[.int .i64 i, .string s] 33) := ⟨_, rfl⟩
  rw [← hW1] at hb1 hh1
  have H1 : Hid (w.alloc (.cells #[.int .i64 i, .string s] 33) = W1) := Lib.hid hW1.symm
  have hsz : w.heap.size < W1.heap.size := by rw [hW1]; simp
  have HC1 : Hid (W1.cell? ⟨w.heap.size, 1, none⟩ = some (.string s)) := Lib.hid (by rw [cell_of_row _ _ _ _ _ _ hh1]; rfl)
  have HB1 := Lib.hid hb1
  clear hn h hW1 hh1 hb1
  go_enter Try.func18, Try.ntmps18
  go_wp2_with (first
    | (go_at_call 24; rw [H1.out]; (with_reducible refine (K1.out _).mono ?_); rintro e w2 ⟨v2, rfl, hob2, hb2⟩
       have c2 := (hb2.cell (p := ⟨w.heap.size, 1, none⟩) hsz).trans HC1.out
       have HB2 := Lib.hid (HB1.out.trans (hb2.mono (Nat.le_of_lt hsz)))
       have hsz2 := Nat.lt_of_lt_of_le hsz hb2.size)
    | (go_at_call 24; (with_reducible refine (K2.out _ _ hob2.bsl).mono ?_); rintro e w3 ⟨v3, rfl, hob3, hb3⟩
       have c3 := (hb3.cell (p := ⟨w.heap.size, 1, none⟩) hsz2).trans c2
       have HB3 := Lib.hid (HB2.out.trans (hb3.mono HB2.out.size)))
    | (at_builtin; refine wpList_append_str w3 rfl (.tmp 14) (.tmp 16) rfl w.heap.size _ (([] ++ lowB i 2) ++ lowB (s.size : Int) 1) rfl (hob3.more HB2.out.size) s rfl HLE.out HB3.out.size ?_
       intro v4 w4 hob4 hb4))
  go_ret
  exact ⟨_, rfl, by rw [HP.out]; exact hob4, HB3.out.trans hb4⟩

/-- copy of bytes that are not none into a row of bytes that is known whole, as one step of a region that draws. -/
theorem step_copy_row {ops : Array Oper} {o : Oper} {a : Act} {w : World} {K : Act → World → Prop} {Q : Exit → Act → World → Prop} {E : Prop} (hgd : o.guard = none) (d s : Operand)
    (ho : o.op = .call { callee := .builtin .copy, args := #[d, s], argTypes := #[24, 24] })
    (g off dLen dCap : Nat) (hd : a.eval d = .slice (some ⟨g, off, none⟩) dLen dCap) (u : Value) (m : List Int) (hs : a.eval s = u) (hr : BSl w u m) (hm : 0 < m.length)
    (cur : List Int) (hg : w.heap[g]? = some (.cells (cur.map (Value.int .u8)).toArray 5 (0, 0))) (hle : m.length ≤ dLen) (hfit : off + m.length ≤ cur.length)
    (h : ∀ w', w'.heap[g]? = some (.cells ((splice cur off m).map (Value.int .u8)).toArray 5 (0, 0)) → Wrote w w' g → K (a.put o.dst (goInt m.length)) w') :
    if Region.wanted o (yielded ops a.tmps) = true then Oper.wp Try.prog o a w K Q else E := by
  have hw : Region.wanted o (yielded ops a.tmps) = true := by simp [Region.wanted, hgd]
  rw [if_pos hw]
  obtain ⟨ao, cap, rfl, hcap⟩ := hr.shape
  cases ao with
  | none =>
    rcases hr.2 with ⟨_, hl⟩ | ⟨_, _, hv, _⟩
    · rw [hl] at hm; simp at hm
    · simp at hv
  | some ad =>
    have hcells : ∀ j v, (m.map (Value.int .u8))[j]? = some v → w.cell? (ad.add j) = some v := by
      intro j v hj
      have hjl : j < m.length := by simpa using (List.getElem?_eq_some_iff.1 hj).1
      obtain ⟨ad', he, hc⟩ := src_cells hr (fun _ _ => rfl) m.length (by simp; omega)
      obtain rfl : ad = ad' := by simpa using he
      exact hc j v (by simpa using hj)
    have hrun := run_copy_row (P := Try.prog) w 24 24 o.type 5 g off dLen dCap ad m.length cap (cur.map (Value.int .u8)).toArray 5 (m.map (Value.int .u8)) Try.underlying24 (by kernel_rfl) hg (by rw [List.length_map]; exact (Nat.min_eq_left hle).symm) hcells (by simpa using hfit) (ints_oneCell _ _)
    unfold Oper.wp
    simp [execOp, ho, resolve, invoke, builtin, hd, hs, hrun, Result.andThen]
    have e : (List.take off (cur.map (Value.int .u8)) ++ ((m.map (Value.int .u8)) ++ List.drop (off + m.length) (cur.map (Value.int .u8)))) = (splice cur off m).map (Value.int .u8) := by
      simp [splice]
    refine h _ ?_ (Wrote.setRow _ _ _)
    rw [setRow_heap w g _ _ 5 _ hg, ← e]

/-- The block as far as k entries are laid. -/
def curK (O : List (Int × ByteArray)) (k : Nat) : List Int := encK8 O k ++ List.replicate (256 - 16 * k) 0
theorem curK_zero (O : List (Int × ByteArray)) : curK O 0 = List.replicate 256 0 := by
  show ([] : List Int) ++ List.replicate (256 - 16 * 0) 0 = _
  rw [List.nil_append]
theorem curK_full (O : List (Int × ByteArray)) : curK O O.length = encD O := by unfold curK encD; rw [encK8_full]
theorem curK_length {O : List (Int × ByteArray)} (k : Nat) (hk : k ≤ O.length) (h16 : k ≤ 16) (h : ∀ j, j < k → frmE (O.getD j default) = true) : (curK O k).length = 256 := by
  unfold curK
  rw [List.length_append, encK8_length k hk h, List.length_replicate]; omega
theorem curK_set {O : List (Int × ByteArray)} (k : Nat) (hk : k < O.length) (h16 : k < 16) (h : ∀ j, j < k → frmE (O.getD j default) = true) (x : Int × ByteArray) (hx : x = O.getD k default) (hf : frmE x = true) :
    splice (curK O k) (k * 16) (hdE x) = curK O (k + 1) := by
  have hl := encK8_length k (Nat.le_of_lt hk) h
  have hn := frmE_len hf
  have hh := hdE_length x
  unfold curK
  rw [encK8_succ k hk, ← hx]
  simp only [splice]
  rw [show k * 16 = (encK8 O k).length by omega, List.take_left, List.append_assoc]
  congr 1
  rw [List.drop_length_add_append, List.drop_replicate, encE, List.append_assoc]
  congr 1
  rw [List.replicate_append_replicate]
  congr 1
  omega
theorem curK_byt {O : List (Int × ByteArray)} (k : Nat) (h : ∀ j, j < k → frmE (O.getD j default) = true) : Byt (curK O k) := byt_append (encK8_byt k h) (byt_replicate _)

/-- What Encode hands back. -/
def EncT8 (O : List (Int × ByteArray)) (w : World) (e : Ending) (w' : World) : Prop :=
  (allE O = true ∧ ∃ u, e = .returned (.tuple #[u, .int .i64 0]) ∧ OB w' w.heap.size u (encD O) ∧ Below w.heap.size w w') ∨
  (allE O = false ∧ e = .returned (.tuple #[.slice none 0 0, .int .i64 1]) ∧ Below w.heap.size w w')
theorem eEnc_long {w : World} (ao : Option Addr) (len cap : Nat) (h : 16 < len) : Calls Try.prog 7 #[.slice ao len cap] w fun e w' => e = .returned (.tuple #[.slice none 0 0, .int .i64 1]) ∧ w = w' := by
  have h2 : 16 < (len : Int) := by omega
  go_enter Try.func7, Try.ntmps7
  go_wp2
  go_ret2
  exact ⟨rfl, rfl⟩
theorem allE_all {O : List (Int × ByteArray)} (hl : O.length ≤ 16) (h : ∀ j, j < O.length → frmE (O.getD j default) = true) : allE O = true :=
  allE_yes hl fun x hx => by
    obtain ⟨j, hj, rfl⟩ := List.getElem_of_mem hx
    have := h j hj
    have e2 : O.getD j default = O[j] := by simp [List.getD_eq_getElem?_getD, hj]
    rw [← e2]; exact this
theorem row_u8 (w : World) (M : Nat) (hM : M = 256) (O : List (Int × ByteArray)) : (w.alloc (.cells (Array.replicate M (.int .u8 0)) 5)).heap[w.heap.size]? = some (.cells ((curK O 0).map (Value.int .u8)).toArray 5 (0, 0)) := by
  have e : curK O 0 = List.replicate M 0 := by rw [hM]; exact curK_zero O
  rw [heap_alloc_new, e, List.map_replicate]; simp
theorem ob_row {w : World} {B g M : Nat} {l : List Int} (hb : Byt l) (hM : l.length = M) (hM1 : M ≤ 1000) (hB : B ≤ g) (h : w.heap[g]? = some (.cells (l.map (Value.int .u8)).toArray 5 (0, 0))) : OB w B (.slice (some ⟨g, 0, none⟩) M M) l := by
  subst hM
  exact OB.of_heap (rest := []) hb hB (by rw [List.append_nil]; exact h) rfl (by unfold maxLen; omega)
theorem eEnc_few {w : World} {v : Value} {O : List (Int × ByteArray)} (hs : ESl w v O) (h16 : O.length ≤ 16) : Calls Try.prog 7 #[v] w (EncT8 O w) := by
  obtain ⟨ao, cap, rfl, hc⟩ := hs.open'
  obtain ⟨M, hMM⟩ : ∃ M : Nat, M = 256 := ⟨_, rfl⟩
  have HMI : Hid ((256 : Int) = (M : Int)) := Lib.hid (by omega)
  have HMN : Hid (M = 256) := Lib.hid hMM
  have hM1 : M ≤ 1000 := by omega
  have HYE := Lib.hid (fun h => allE_all h16 h)
  have HNO := Lib.hid (fun k hk h => allE_no (O := O) k hk h)
  have HSE := Lib.hid (fun k hk h1 h x hx hf => curK_set (O := O) k hk h1 h x hx hf)
  have HLN := Lib.hid (fun k hk h1 h => curK_length (O := O) k hk h1 h)
  have HBY := Lib.hid (fun k h => curK_byt (O := O) k h)
  have HFU := Lib.hid (curK_full O)
  have HR0 := Lib.hid (row_u8 w M hMM O)
  obtain ⟨n, hn⟩ : ∃ n, n = O.length := ⟨_, rfl⟩
  rw [← hn] at hc h16 HYE HNO HSE HLN HFU ⊢
  have HC := Lib.hid hc
  have h16i : ¬ 16 < (n : Int) := by omega
  clear hs hc hMM hn
  go_enter Try.func7, Try.ntmps7
  go_wp2_with (at_make; refine wpList_make_u8c _ rfl _ _ rfl 256 256 M M rfl rfl HMI.out HMI.out (Nat.le_refl _) (by omega) ?_)
  have hbw3 : Below w.heap.size w (w.alloc (.cells (Array.replicate M (.int .u8 0)) 5)) := below_box _ _
  have hr3 := HR0.out
  have hz3 : w.heap.size < (w.alloc (.cells (Array.replicate M (.int .u8 0)) 5)).heap.size := by simp
  obtain ⟨g, hg⟩ : ∃ g, g = w.heap.size := ⟨_, rfl⟩
  rw [← hg] at hr3 hz3 ⊢
  have HG := Lib.hid hg
  have hb3g : Below g w (w.alloc (.cells (Array.replicate M (.int .u8 0)) 5)) := by rw [hg]; exact hbw3
  clear HR0 hg hbw3
  generalize w.alloc (.cells (Array.replicate M (.int .u8 0)) 5) = w3 at hr3 hz3 hb3g ⊢
  have HR3 := Lib.hid hr3
  clear hr3
  go_loopw [13] (fun i wr => ∃ k : Nat, k ≤ n ∧ i = .int .i64 k ∧ Hid (wr.heap[g]? = some (.cells ((curK O k).map (Value.int .u8)).toArray 5 (0, 0))) ∧ Hid (∀ j, j < k → frmE (O.getD j default) = true) ∧ Below g w wr ∧ g < wr.heap.size) (fun i _ => n - (intOf i).toNat)
  case atStart => exact ⟨0, by omega, rfl, HR3, fun j hj => absurd hj (Nat.not_lt_zero _), hb3g, hz3⟩
  case round =>
    obtain ⟨k, hk, rfl, HROW, HK, hbr, hgw⟩ := hrel
    clear HR3 hb3g hz3
    by_cases hlt : k < n
    · obtain ⟨b, off, rfl, hb, hcc⟩ := HC.out (by omega)
      have hck := hcc k hlt
      have hno := HNO.out k hlt
      have hse := HSE.out k hlt (by omega) HK.out
      have hln := HLN.out k hk (by omega) HK.out
      obtain ⟨⟨x, y⟩, hx⟩ : ∃ x, x = O.getD k default := ⟨_, rfl⟩
      rw [← hx] at hck hno
      have hse1 := hse _ hx
      rw [← HG.out] at hb
      have c1 := (hbr.cell (p := ⟨b, off + k * 2, none⟩) hb).trans hck.1
      have c2 := (hbr.cell (p := ⟨b, off + k * 2 + 1, none⟩) hb).trans hck.2
      have ek : (k : Int) < (n : Int) := by omega
      have HX := Lib.hid hx
      have HN1 := Lib.hid hno
      have HS1 := Lib.hid hse1
      have HL1 := Lib.hid hln
      cases hf : frmE (x, y)
      · have HF := Lib.hid hf
        have KF := Lib.hid (fun W => eForm_is x y false hf W)
        clear hx hcc hck hno hse hse1 hln hf
        go_wp2_with (go_at_call 10; refine (KF.out _).mono ?_; rintro e w5 ⟨rfl, hb5⟩)
        go_ret2
        have HB := (hbr.trans ((below_box wr (.cells #[.int .i64 x, .string y] 33)).mono (Nat.le_of_lt hgw))).trans (hb5.mono (by simp; omega))
        exact .inr ⟨HN1.out HF.out, rfl, by rw [← HG.out]; exact HB⟩
      · have HF := Lib.hid hf
        have KF := Lib.hid (fun W => eForm_is x y true hf W)
        have KW := Lib.hid (fun W => eWrite_of x y hf W)
        have HHL : Hid ((hdE (x, y)).length ≤ 16 ∧ 0 < (hdE (x, y)).length) := Lib.hid (by have := frmE_len hf; rw [hdE_length]; omega)
        have hk16 : k * 16 + 16 ≤ M := by have := HMN.out; omega
        have hsl : ∀ W : World, (Instr.slice 24 (.slice (some ⟨g, 0, none⟩) M M) (some (.int .i64 ((k : Int) * 16))) none none).run Try.prog W = .ok (.slice (some ⟨g, k * 16, none⟩) (M - k * 16) (M - k * 16)) W := fun W => by
          have := run_slice_part W g 0 M M (k * 16) M none (.inl ⟨rfl, rfl⟩) (by omega) (Nat.le_refl _) (by omega)
          have ee : Try.prog.elem 24 = 5 := by kernel_rfl
          rw [Nat.zero_add, Int.natCast_mul, run_sliceAt_slice W 24 _ _ _ _ (by rw [ee]; exact Try.underlying24)] at this
          exact this
        clear hx hcc hck hno hse hse1 hln hf
        go_wp2_with (first | (go_at_call 10
                              have hbx := below_box wr (.cells #[.int .i64 x, .string y] 33)
                              have hhx := heap_alloc_new wr (.cells #[.int .i64 x, .string y] 33)
                              have hqx : wr.heap.size < (wr.alloc (.cells #[.int .i64 x, .string y] 33)).heap.size := by simp
                              generalize wr.alloc (.cells #[.int .i64 x, .string y] 33) = W5 at hbx hhx hqx ⊢
                              refine (KF.out _).mono ?_; rintro e w6 ⟨rfl, hb6⟩))
        have c50 : W5.cell? ⟨wr.heap.size, 0, none⟩ = some (.int .i64 x) := by rw [cell_of_row _ _ _ _ _ _ hhx]; rfl
        have c51 : W5.cell? ⟨wr.heap.size, 1, none⟩ = some (.string y) := by rw [cell_of_row _ _ _ _ _ _ hhx]; rfl
        have d0 : w6.drew.cell? ⟨wr.heap.size, 0, none⟩ = some (.int .i64 x) := (hb6.cell (p := ⟨wr.heap.size, 0, none⟩) hqx).trans c50
        have d1 : w6.drew.cell? ⟨wr.heap.size, 1, none⟩ = some (.string y) := (hb6.cell (p := ⟨wr.heap.size, 1, none⟩) hqx).trans c51
        have hb06 : Below wr.heap.size wr w6.drew := below_drewN' (hbx.trans (hb6.mono hbx.size)) 1
        have HB6 := Lib.hid hb06
        have HR6 : Hid (w6.drew.heap[g]? = some (.cells ((curK O k).map (Value.int .u8)).toArray 5 (0, 0))) := Lib.hid ((hb06.block g hgw).trans HROW.out)
        have hg6 : g < w6.drew.heap.size := Nat.lt_of_lt_of_le hgw hb06.size
        have hq6 : wr.heap.size < w6.drew.heap.size := Nat.lt_of_lt_of_le hqx hb6.size
        obtain ⟨q, hq⟩ : ∃ q, q = wr.heap.size := ⟨_, rfl⟩
        rw [← hq] at d0 d1 hq6 ⊢
        have hgq : q ≠ g := by omega
        have hfit : k * 16 + (hdE (x, y)).length ≤ (curK O k).length := by have := HHL.out.1; have := HMN.out; rw [HL1.out]; omega
        have hle : (hdE (x, y)).length ≤ M - k * 16 := by have := HHL.out.1; omega
        have HFIT := Lib.hid hfit
        have hmul : IntKind.i64.wrap ((k : Int) * 16) = (k : Int) * 16 := IntWalk.i64_in _ (by omega)
        have HLE := Lib.hid hle
        clear c50 c51 hhx hbx hqx hb6 hb06 hq hfit hle c1 c2
        go_region_held3 (fun W => W.cell? ⟨q, 0, none⟩ = some (.int .i64 x) ∧ W.cell? ⟨q, 1, none⟩ = some (.string y)) (first | exact ⟨f0, f1⟩ | exact ⟨e0, e1⟩ | exact ⟨d0, d1⟩) (first
          | (go_at_call 18; (with_reducible refine (KW.out _).mono ?_); rintro e w7 ⟨v7, rfl, hob7, hb7⟩
             have HB7 := Lib.hid (HB6.out.trans (hb7.mono HB6.out.size))
             have hr7 := (hb7.block g hg6).trans HR6.out
             have HR7 := Lib.hid hr7
             have e0 := (hb7.cell (p := ⟨q, 0, none⟩) hq6).trans d0
             have e1 := (hb7.cell (p := ⟨q, 1, none⟩) hq6).trans d1
             clear hr7)
          | (refine step_copy_row rfl (.tmp 24) (.tmp 26) rfl g (k * 16) (M - k * 16) (M - k * 16) rfl v7 (hdE (x, y)) rfl hob7.bsl HHL.out.2 (curK O k) HR7.out HLE.out HFIT.out ?_
             intro w8 hr8 hw8
             have f0 : w8.cell? ⟨q, 0, none⟩ = some (.int .i64 x) := by simp only [World.cell?]; rw [hw8.2.2.2.2 q hgq]; exact e0
             have f1 : w8.cell? ⟨q, 1, none⟩ = some (.string y) := by simp only [World.cell?]; rw [hw8.2.2.2.2 q hgq]; exact e1))
        go_wp2
        go_roundw
        case rel =>
          have HB8 := (hbr.trans (HB7.out.mono (Nat.le_of_lt hgw))).trans (hw8.below (Nat.le_refl g))
          refine ⟨k + 1, by omega, by go_num, ?_, fun j hj => ?_, HB8, ?_⟩
          · show w8.heap[g]? = _
            rw [← HS1.out HF.out]; exact hr8
          · by_cases e : j = k
            · subst e; rw [← HX.out]; exact HF.out
            · exact HK.out j (by omega)
          · exact Nat.lt_of_lt_of_le hgw (Nat.le_trans HB7.out.size (by rw [hw8.2.2.2.1]; exact Nat.le_refl _))
        case measure => simp [intOf]; omega
    · obtain rfl : k = n := by omega
      have hln := HLN.out k hk (by omega) HK.out
      have hrow := HROW.out
      have hby := HBY.out k HK.out
      rw [HFU.out] at hrow hln hby
      have HOB := Lib.hid (ob_row (B := w.heap.size) hby (hln.trans HMN.out.symm) hM1 (by rw [HG.out]; exact Nat.le_refl _) hrow)
      have HBG := Lib.hid (show Below w.heap.size w wr by rw [← HG.out]; exact hbr)
      clear hln hrow hby
      go_wp2
      go_ret2
      exact .inl ⟨HYE.out HK.out, _, rfl, HOB.out, HBG.out⟩
theorem eEnc_any {w : World} {v : Value} {O : List (Int × ByteArray)} (hs : ESl w v O) : Calls Try.prog 7 #[v] w (EncT8 O w) := by
  by_cases h : O.length ≤ 16
  · exact eEnc_few hs h
  · obtain ⟨ao, cap, rfl⟩ := hs.shape
    exact (eEnc_long ao _ cap (by omega)).mono fun e w' ⟨he, hw⟩ => .inr ⟨allE_long (by omega), he, by rw [← hw]; exact Below.refl _ _⟩
end Go.Proofs.Yteemjhnlnjkjcaa
