/- The reference's rows whose bools lie anywhere: Count, Bytes; bools of one's own. -/
import Derived.Test.YtflkggoknmgbnaaRefOf
import Derived.Test.YtflkggoknmgbnaaMemK
namespace Go.Proofs.Ytflkggoknmgbnaa
open Go.RowKit BM
set_option linter.unusedVariables false

/-- A []bool of one's own, from block B on, that reads as L. -/
def KR (w : World) (B : Nat) (v : Value) (L : List Bool) : Prop := w.ownsRow B 4 1 v L.length (L.map Value.bool)
theorem KR.below {w w' : World} {B : Nat} {v : Value} {L : List Bool} (h : KR w B v L) (hb : Below w.heap.size w w') : KR w' B v L := by
  refine ⟨h.1, ?_⟩
  rcases h.2 with h | ⟨g, cap, cur, hv, hg, hh, r⟩
  · exact .inl h
  · exact .inr ⟨g, cap, cur, hv, hg, by rw [hb.block g (Array.getElem?_eq_some_iff.1 hh).1]; exact hh, r⟩
theorem KR.more {w : World} {B B' : Nat} {v : Value} {L : List Bool} (h : KR w B v L) (hB : B' ≤ B) : KR w B' v L := by
  refine ⟨h.1, ?_⟩
  rcases h.2 with h | ⟨g, cap, cur, hv, hg, r⟩
  · exact .inl h
  · exact .inr ⟨g, cap, cur, hv, Nat.le_trans hB hg, r⟩
theorem kr_nil (w : World) (B : Nat) : KR w B (.slice none 0 0) [] := ⟨by simp, .inl ⟨rfl, rfl⟩⟩
theorem KR.ksl {w : World} {B : Nat} {v : Value} {L : List Bool} (h : KR w B v L) : KSl w v L := by
  rcases h.2 with ⟨hv, hl⟩ | ⟨g, cap, cur, hv, hg, hh, hnc, hcm, hcs, ht⟩
  · exact .inl ⟨hv, List.eq_nil_of_length_eq_zero hl⟩
  · refine .inr ⟨_, cap, hv, fun j hj => ⟨(Array.getElem?_eq_some_iff.1 hh).1, rfl, ?_⟩⟩
    show w.cell? ⟨g, 0 + j, none⟩ = _
    rw [Nat.zero_add, cell_of_row _ _ _ _ _ _ hh]
    have : (cur.toList.take (L.length * 1))[j]? = (L.map Value.bool)[j]? := by rw [ht]
    rw [List.getElem?_take, if_pos (by omega)] at this
    simpa [List.getD_eq_getElem?_getD, hj] using this
/-- append of one bool onto bools of one's own (it lies in the block that was made last). -/
theorem wpList_append_bool (w1 : World) (x : Bool) {ops : Array Oper} {rest : List Oper} {o : Oper} {a : Act} {Q : Exit → Act → World → Prop} (hgd : o.guard = none) (s y : Operand)
    (ho : o.op = .call { callee := .builtin .append, args := #[s, y], argTypes := #[22, 22] })
    (B : Nat) (v : Value) (L : List Bool) (hs : a.eval s = v) (hown : KR w1 B v L) (hL : L.length ≤ 1000000) (hy : a.eval y = .slice (some ⟨w1.heap.size, 0, none⟩) 1 1) (hB : B ≤ w1.heap.size)
    (h : ∀ v' w', KR w' B v' (L ++ [x]) → Below B w1 w' → w1.grownBy w' v.ownBlock → wpList Try.prog ops Q rest (a.put o.dst v') w') : wpList Try.prog ops Q (o :: rest) a (w1.alloc (.cells #[.bool x] 4)) := by
  obtain ⟨i, h2, h3, h4, h5⟩ := info_parts infoBool
  have hbel : Below w1.heap.size w1 (w1.alloc (.cells #[.bool x] 4)) := below_box _ _
  have hnew : (w1.alloc (.cells #[.bool x] 4)).heap[w1.heap.size]? = some (.cells #[.bool x] 4 (0, 0)) := heap_alloc_new w1 _
  have hf := hown.below hbel
  refine wpList_append_own _ hgd s y 22 ho B 4 i _ 1 1 Try.underlying22 h2 h3 h4 h5 rfl (by decide) v L.length _ hs hf ⟨w1.heap.size, 0, none⟩ 1 1 [.bool x] hy rfl ?_ ?_ (by simp only [maxLen]; omega) (by omega) (by simp; omega) fun v' w' h6 h7 _ => ?_
  · intro m u hm
    have hm2 : m = 0 := by have := (List.getElem?_eq_some_iff.1 hm).1; simp at this; exact this
    subst hm2
    rw [Addr.add_lit, Nat.zero_add, cell_of_row _ _ _ _ _ _ hnew, ← hm]
    rfl
  · intro u hu
    simp at hu
    subst hu; rfl
  · refine h v' w' ?_ ((hbel.mono hB).trans ((Below.refl _ _).grown h7 (by simp; omega) fun k hk => (World.ownsRow.lt hf k hk).1)) ⟨h7.os, h7.tape, h7.output, by have := h7.size; simp at this; omega, fun k hk hne => by rw [h7.block k (by simp; omega) hne]; exact hbel.block k hk⟩
    rw [KR, List.length_append, List.map_append]; exact h6

/-- The reference's row at p, its bools the slice v. -/
theorem rCount_k {w : World} {p : Nat} {v : Value} {L : List Bool} (hp : w.cell? ⟨p, 0, none⟩ = some v) (hk : KSl w v L) (hn : L.length ≤ 4096) :
    Calls Try.prog 33 #[.pointer (some ⟨p, 0, none⟩)] w fun e w' => e = .returned (.int .i64 (countB L)) ∧ w = w' := by
  rcases hk with ⟨rfl, rfl⟩ | ⟨⟨g, off, spot⟩, cap, rfl, hc⟩
  · go_enter Try.func33, Try.ntmps33
    go_wp2
    refine wp_loop_rounds 1 ?_
    rw [rounds_succ]
    go_wp2
    go_ret
    exact ⟨rfl, rfl⟩
  · have hx : ∀ j, j < L.length → w.cell? ⟨g, off + j, none⟩ = some (.bool (L.getD j false)) := fun j hj => by
      obtain ⟨_, h2, h3⟩ := hc j hj
      exact h3
    have hsp : 0 < L.length → spot = none := fun h => (hc 0 h).2.1
    clear hc
    have HX := Lib.hid hx
    have HSP := Lib.hid hsp
    clear hx hsp
    go_enter Try.func33, Try.ntmps33
    go_wp2_with fail
    go_loop [3, 10] (fun c i => ∃ k : Nat, k ≤ L.length ∧ i = .int .i64 k ∧ c = .int .i64 (countB (L.take k))) (fun _ i => L.length - (intOf i).toNat)
    case atStart => exact ⟨0, by omega, rfl, rfl⟩
    case round =>
      obtain ⟨k, hk, rfl, rfl⟩ := hrel
      have hle := countB_take_le L k
      obtain ⟨C, hC⟩ : ∃ C, C = countB (L.take k) := ⟨_, rfl⟩
      rw [← hC] at hle ⊢
      by_cases hlt : k < L.length
      · obtain rfl : spot = none := HSP.out (by omega)
        have hstep := countB_take hlt
        have hc := HX.out k hlt
        cases hb : L.getD k false
        · rw [hb, if_neg (by decide), ← hC] at hstep
          rw [hb] at hc
          have HS := Lib.hid hstep
          clear hb hstep hC
          go_wp2_with fail
          go_round
          case rel => exact ⟨k + 1, by omega, by go_num, by rw [HS.out]; go_num⟩
          case measure => simp [intOf]; omega
        · rw [hb, if_pos rfl, ← hC] at hstep
          rw [hb] at hc
          have HS := Lib.hid hstep
          clear hb hstep hC
          go_wp2_with fail
          go_round
          case rel => exact ⟨k + 1, by omega, by go_num, by rw [HS.out]; go_num⟩
          case measure => simp [intOf]; omega
      · have HC := Lib.hid hC
        clear hC
        go_wp2_with fail
        go_ret
        exact ⟨ret_int (by rw [HC.out, List.take_of_length_le (by omega)]), rfl⟩

theorem KSl.open' {w : World} {v : Value} {L : List Bool} (h : KSl w v L) : ∃ ao cap, v = .slice ao L.length cap ∧ (0 < L.length → ∃ g off, ao = some ⟨g, off, none⟩ ∧ g < w.heap.size ∧ ∀ j, j < L.length → w.cell? ⟨g, off + j, none⟩ = some (.bool (L.getD j false))) := by
  rcases h with ⟨rfl, rfl⟩ | ⟨⟨g, off, spot⟩, cap, rfl, hc⟩
  · exact ⟨none, 0, rfl, fun h => by simp at h⟩
  · refine ⟨_, cap, rfl, fun h0 => ?_⟩
    obtain ⟨h1, h2, _⟩ := hc 0 h0
    obtain rfl : spot = none := h2
    exact ⟨g, off, rfl, h1, fun j hj => (hc j hj).2.2⟩
theorem rBytes_k {w : World} {p : Nat} {v : Value} {L : List Bool} (hp : w.cell? ⟨p, 0, none⟩ = some v) (hpl : p < w.heap.size) (hk : KSl w v L) (hn : L.length ≤ 4096) (l : List Int) (hr : Rep l L) :
    Calls Try.prog 35 #[.pointer (some ⟨p, 0, none⟩)] w (NewBytes w l) := by
  have hlen := hr.len
  obtain ⟨ao, cap, rfl, hx⟩ := hk.open'
  obtain ⟨N, hN⟩ : ∃ N, N = l.length := ⟨_, rfl⟩
  rw [← hN] at hlen
  have e8 : ((L.length : Int) + 7) / 8 = (N : Int) := by omega
  have hNN : N ≤ 600 := by omega
  have HN := Lib.hid hN
  have HX := Lib.hid hx
  have HE := Lib.hid e8
  have HL := Lib.hid hlen
  have hbl : Below w.heap.size w (w.alloc (.cells (Array.replicate N (.int .u8 0)) 5)) := (Below.refl _ _).alloc (Nat.le_refl _) _
  have hs1 : (w.alloc (.cells (Array.replicate N (.int .u8 0)) 5)).cell? ⟨p, 0, none⟩ = some (.slice ao L.length cap) := by rw [hbl.cell (by exact hpl)]; exact hp
  clear hN hx e8 hlen hk
  go_enter Try.func35, Try.ntmps35
  go_wp2_with (at_make; refine wpList_make_u8 _ rfl _ _ rfl _ N rfl rfl HE.out (by omega) ?_)
  go_loopw [18] (fun i wr => ∃ (k : Nat) (m : List Int), k ≤ L.length ∧ i = .int .i64 k ∧ Hid (Rep m (part L k)) ∧ Hid (wr.heap[w.heap.size]? = some (.cells (m.map (Value.int .u8)).toArray 5 (0, 0))) ∧ Below w.heap.size w wr)
    (fun i _ => L.length - (intOf i).toNat)
  case atStart =>
    refine ⟨0, List.replicate ((L.length + 7) / 8) 0, by omega, rfl, ?_, ?_, hbl⟩
    · rw [part_zero]; exact rep_new L.length
    · rw [heap_alloc_new, ← HL.out]; simp [Hid]
  case round =>
    obtain ⟨k, m, hk, rfl, hrep, hgm, hbr⟩ := hrel
    have hml := hrep.out.len
    rw [part_length L k hk, ← HL.out] at hml
    have HML := Lib.hid hml
    clear hml
    have hp := (hbr.cell (p := ⟨p, 0, none⟩) hpl).trans hp
    by_cases hlt2 : k < L.length
    · obtain ⟨g, off, rfl, hgl, hxx⟩ := HX.out (by omega)
      have hkN : k / 8 < N := by have := HL.out; omega
      have hkN' : (k : Int) / 8 < (N : Int) := by omega
      have hg0 := (hbr.cell (p := ⟨g, off + k, none⟩) hgl).trans (hxx k hlt2)
      clear hxx
      cases hb : L.getD k false
      · rw [hb] at hg0
        have HP := Lib.hid (part_step L k hlt2 false hb)
        clear hb
        go_wp2_with fail
        go_roundw
        case rel =>
          refine ⟨k + 1, m, by omega, by go_num, ?_, hgm, hbr⟩
          have := HP.out
          rw [if_neg (by decide)] at this
          rw [this]; exact hrep
        case measure => simp [intOf]; omega
      · rw [hb] at hg0
        have HP := Lib.hid (part_step L k hlt2 true hb)
        have hxb := hrep.out.byte (k / 8)
        obtain ⟨x, hx⟩ : ∃ x, x = m.getD (k / 8) 0 := ⟨_, rfl⟩
        have hcx : wr.cell? ⟨w.heap.size, k / 8, none⟩ = some (.int .u8 x) := by
          rw [cell_of_row _ _ _ _ _ _ hgm.out, hx]
          simp [List.getD_eq_getElem?_getD, HML.out, hkN]
        have hfx : wr.frozen? ⟨w.heap.size, k / 8, none⟩ = false := frozen_of_row _ _ _ _ _ hgm.out
        rw [← hx] at hxb
        have HXX := Lib.hid hx
        clear hb hx
        go_wp2_with fail
        go_region
        go_wp2_with fail
        go_roundw
        case rel =>
          have hk8 : k % 8 < 8 := Nat.mod_lt _ (by omega)
          have hpl : k < (part L k).length := by rw [part_length L k hk]; exact hlt2
          have hset := rep_set hrep.out k true hpl (bits BinOp.or IntKind.u8 x (2 ^ (k % 8) % 256)) (by rw [or_bit' x _ hk8 hxb.1 hxb.2, ← HXX.out]; rfl)
          have hP := HP.out
          rw [if_pos trivial] at hP
          refine ⟨k + 1, _, by omega, by go_num, by rw [hP]; exact hset, ?_, ?_⟩
          · show (wr.setCell _ _).heap[w.heap.size]? = _
            rw [heap_setCell_same _ _ _ _ _ _ hgm.out, List.map_set]
            simp
          · exact (hbr.setCell (p := ⟨w.heap.size, k / 8, none⟩) (Nat.le_refl _) _).drew
        case measure => simp [intOf]; omega
    · go_wp2_with fail
      go_ret
      have hr2 := hrep.out
      rw [part_all L k (by omega)] at hr2
      obtain rfl : m = l := rep_ext hr2 hr
      exact ⟨_, rfl, by rw [HN.out]; exact bsl_row hr.byte hgm.out _ (by first | omega | exact Nat.le_refl _), hbr⟩

end Go.Proofs.Ytflkggoknmgbnaa
