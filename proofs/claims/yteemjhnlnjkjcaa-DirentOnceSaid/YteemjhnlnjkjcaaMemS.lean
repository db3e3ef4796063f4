/- A stretch of a []byte: s[lo:hi], s[lo:]. -/
import Derived.Test.YteemjhnlnjkjcaaMem
namespace Go.Proofs.Yteemjhnlnjkjcaa
open Go.RowKit
set_option linter.unusedVariables false

theorem run_slice_part (w : World) (b off n cap l h : Nat) (hi : Option Value) (hhi : (hi = none ∧ h = n) ∨ hi = some (.int .i64 (h : Int))) (h1 : l ≤ h) (h2 : h ≤ cap) (h3 : l < cap) :
    (Instr.sliceAt 24 (.slice (some ⟨b, off, none⟩) n cap) (some (.int .i64 (l : Int))) hi none).run Try.prog w = .ok (.slice (some ⟨b, off + l, none⟩) (h - l) (cap - l)) w := by
  obtain ⟨i, g2, g3, g4, g5⟩ := info_parts infoU8
  have hne : cap ≠ l := by omega
  have ee : Try.prog.elem 24 = 5 := by kernel_rfl
  have hs : (sizeOf 5).run Try.prog w = .ok 1 w := by simp [sizeOf, typeInfo, g2, g4]
  rcases hhi with ⟨rfl, rfl⟩ | rfl
  · rw [run_sliceAt_slice w 24 _ _ _ _ (by rw [ee]; exact Try.underlying24), run_slice_l w 24 _ h cap (by rw [ee]; exact Try.underlying24) .i64 (l : Int) (by omega) (by omega), ee, hs]
    simp [sliced, hne, Addr.add_lit]
  · rw [run_sliceAt_slice w 24 _ _ _ _ (by rw [ee]; exact Try.underlying24), run_slice_lh w 24 _ n cap (by rw [ee]; exact Try.underlying24) .i64 .i64 (l : Int) (h : Int) (by omega) (by omega) (by omega), ee, hs]
    simp [sliced, hne, Addr.add_lit]
/-- s[lo:hi]. -/
theorem wpList_slice_lh {w : World} {ops : Array Oper} {rest : List Oper} {o : Oper} {a : Act} {Q : Exit → Act → World → Prop} (hgd : o.guard = none) (x lo hi : Operand) (ho : o.op = .slice 24 x (some lo) (some hi) none)
    (b off n cap : Nat) (hx : a.eval x = .slice (some ⟨b, off, none⟩) n cap) (L H : Int) (hl : a.eval lo = .int .i64 L) (hh : a.eval hi = .int .i64 H) (l h m : Nat) (hm : h - l = m) (hL : L = l) (hH : H = h) (h1 : l ≤ h) (h2 : h ≤ cap) (h3 : l < cap)
    (hK : wpList Try.prog ops Q rest (a.put o.dst (.slice (some ⟨b, off + l, none⟩) m (cap - l))) w) : wpList Try.prog ops Q (o :: rest) a w := by
  subst hL hH hm
  refine wpList_plain hgd fun K hK' => ?_
  unfold Oper.wp execOp
  simp only [ho, hx, hl, hh, Option.map_some, Option.map_none, run_slice_part w b off n cap l h _ (.inr rfl) h1 h2 h3, Sem.run_bind, Sem.run_pure, Result.andThen_ok]
  exact hK' _ _ hK
/-- s[lo:]. -/
theorem wpList_slice_l {w : World} {ops : Array Oper} {rest : List Oper} {o : Oper} {a : Act} {Q : Exit → Act → World → Prop} (hgd : o.guard = none) (x lo : Operand) (ho : o.op = .slice 24 x (some lo) none none)
    (b off n cap : Nat) (hx : a.eval x = .slice (some ⟨b, off, none⟩) n cap) (L : Int) (hl : a.eval lo = .int .i64 L) (l : Nat) (hL : L = l) (h1 : l ≤ n) (h2 : n ≤ cap) (h3 : l < cap)
    (hK : wpList Try.prog ops Q rest (a.put o.dst (.slice (some ⟨b, off + l, none⟩) (n - l) (cap - l))) w) : wpList Try.prog ops Q (o :: rest) a w := by
  subst hL
  refine wpList_plain hgd fun K hK' => ?_
  unfold Oper.wp execOp
  simp only [ho, hx, hl, Option.map_some, Option.map_none, run_slice_part w b off n cap l n none (.inl ⟨rfl, rfl⟩) h1 h2 h3, Sem.run_bind, Sem.run_pure, Result.andThen_ok]
  exact hK' _ _ hK
/-- What a stretch reads as. -/
theorem BSl.mid {w : World} {b off cap : Nat} {l : List Int} (h : BSl w (.slice (some ⟨b, off, none⟩) l.length cap) l) (lo m : Nat) (hm : lo + m ≤ l.length) : BSl w (.slice (some ⟨b, off + lo, none⟩) m (cap - lo)) ((l.drop lo).take m) := by
  have hlen : ((l.drop lo).take m).length = m := by simp; omega
  rcases h.2 with ⟨hv, _⟩ | ⟨a', c', hv, hc0, hc⟩
  · simp at hv
  · obtain ⟨rfl, rfl⟩ : a' = ⟨b, off, none⟩ ∧ cap = c' := by
      have := Value.slice.inj hv
      exact ⟨(Option.some.inj this.1).symm, this.2.2⟩
    refine ⟨byt_take (byt_drop h.1 lo) m, .inr ⟨⟨b, off + lo, none⟩, cap - lo, by rw [hlen], by rw [hlen]; omega, fun j hj => ?_⟩⟩
    rw [hlen] at hj
    obtain ⟨h1, _, h3⟩ := hc (lo + j) (by omega)
    refine ⟨h1, rfl, ?_⟩
    show w.cell? ⟨b, off + lo + j, none⟩ = _
    rw [Nat.add_assoc]
    have h3 : w.cell? ⟨b, off + (lo + j), none⟩ = some (.int .u8 (l.getD (lo + j) 0)) := h3
    rw [h3]
    simp [List.getD_eq_getElem?_getD, hj]
theorem BSl.open' {w : World} {v : Value} {l : List Int} (h : BSl w v l) (h0 : 0 < l.length) : ∃ b off cap, v = .slice (some ⟨b, off, none⟩) l.length cap ∧ l.length ≤ cap ∧ b < w.heap.size := by
  rcases h.2 with ⟨_, hl⟩ | ⟨⟨b, off, spot⟩, cap, hv, hc0, hc⟩
  · rw [hl] at h0; simp at h0
  · obtain ⟨h1, h2, _⟩ := hc 0 h0
    obtain rfl : spot = none := h2
    exact ⟨b, off, cap, hv, hc0, h1⟩
end Go.Proofs.Yteemjhnlnjkjcaa
