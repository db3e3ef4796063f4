/- Words for memory: values of type []byte that read as lists, rows of one's own, make, copy and append on them. -/
import Derived.Test.YtmjndpmpeidhaaaRows
import Derived.WalkKit
import Derived.WalkSpells
import Derived.WalkLawsBesides
import Derived.BigQuiet
import Derived.Lib.Hide
import Derived.Laws.CopyOwn
import Derived.Laws.BytesArg
import Derived.Laws.AppendOwnNone
import Derived.Maps.AppendAt
import Derived.OwnWalk
import Derived.OpenShut
import Derived.SizedLaws
namespace Go.Proofs.Ytmjndpmpeidhaaa
open Go.RowKit

theorem ret_int {k : IntKind} {a b : Int} (h : a = b) : Ending.returned (.int k a) = .returned (.int k b) := by rw [h]
theorem ret_bool {a b : Bool} (h : a = b) : Ending.returned (.bool a) = .returned (.bool b) := by rw [h]
theorem below_drewN' {B : Nat} {a w : World} (h : Below B a w) (n : Nat) : Below B a (w.drewN n) := ⟨h.os, h.tape, h.output, h.size, h.block⟩
theorem below_box (w : World) (o : Obj) : Below w.heap.size w (w.alloc o) := (Below.refl _ _).alloc (Nat.le_refl _) _
theorem below_boxN (w : World) (o : Obj) (n : Nat) : Below w.heap.size w ((w.alloc o).drewN n) := below_drewN' (below_box w o) n
theorem quiet_back {P : Program} {f : FuncId} {args : Array Value} {w : World} {n : Nat} {v : Value}
    (h : Calls P f args (w.drewN n) fun e w' => e = .returned v ∧ w.drewN n = w') : Calls P f args (w.drewN n) fun e w'' => e = .returned v ∧ ∃ m, w'' = w.drewN m :=
  Calls.quiet_of_same (h.mono fun _ _ ⟨he, hw⟩ => ⟨he, hw.symm⟩)

/-- Each number of the list is a byte. -/
def Byt (l : List Int) : Prop := ∀ j, 0 ≤ l.getD j 0 ∧ l.getD j 0 ≤ 255
theorem byt_nil : Byt [] := fun j => by simp
theorem byt_of_mem {l : List Int} (h : ∀ x ∈ l, 0 ≤ x ∧ x ≤ 255) : Byt l := fun j => by
  by_cases hj : j < l.length
  · have : l.getD j 0 ∈ l := by simp [List.getD_eq_getElem?_getD, hj]
    exact h _ this
  · rw [List.getD_eq_getElem?_getD, List.getElem?_eq_none (by omega)]; exact ⟨by decide, by decide⟩
theorem byt_mem {l : List Int} (h : Byt l) : ∀ x ∈ l, 0 ≤ x ∧ x ≤ 255 := fun x hx => by
  obtain ⟨j, hj, rfl⟩ := List.getElem_of_mem hx
  have := h j
  simpa [List.getD_eq_getElem?_getD, hj] using this
theorem byt_append {a b : List Int} (ha : Byt a) (hb : Byt b) : Byt (a ++ b) :=
  byt_of_mem fun x hx => (List.mem_append.1 hx).elim (byt_mem ha x) (byt_mem hb x)
theorem byt_replicate (n : Nat) : Byt (List.replicate n 0) := byt_of_mem fun x hx => by rw [List.eq_of_mem_replicate hx]; decide
theorem byt_take {l : List Int} (h : Byt l) (n : Nat) : Byt (l.take n) := byt_of_mem fun x hx => byt_mem h x (List.mem_of_mem_take hx)
theorem byt_drop {l : List Int} (h : Byt l) (n : Nat) : Byt (l.drop n) := byt_of_mem fun x hx => byt_mem h x (List.mem_of_mem_drop hx)

/-- A value of type []byte that reads as the bytes l. -/
def BSl (w : World) (v : Value) (l : List Int) : Prop :=
  Byt l ∧ ((v = .slice none 0 0 ∧ l = []) ∨ ∃ a cap, v = .slice (some a) l.length cap ∧ l.length ≤ cap ∧ ∀ j, j < l.length → a.block < w.heap.size ∧ a.spot = none ∧ w.cell? ⟨a.block, a.off + j, none⟩ = some (.int .u8 (l.getD j 0)))

theorem bsl_nil (w : World) : BSl w (.slice none 0 0) [] := ⟨byt_nil, .inl ⟨rfl, rfl⟩⟩
theorem BSl.drewN {w : World} {v : Value} {l : List Int} (h : BSl w v l) (n : Nat) : BSl (w.drewN n) v l := h
theorem BSl.keep {w w' : World} {v : Value} {l : List Int} (h : BSl w v l) (hs : w.heap.size ≤ w'.heap.size) (hb : ∀ p : Addr, p.block < w.heap.size → w'.cell? p = w.cell? p) : BSl w' v l := by
  refine ⟨h.1, ?_⟩
  rcases h.2 with h | ⟨a, cap, hv, hcap, hc⟩
  · exact .inl h
  · refine .inr ⟨a, cap, hv, hcap, fun j hj => ?_⟩
    obtain ⟨h1, h2, h3⟩ := hc j hj
    exact ⟨Nat.lt_of_lt_of_le h1 hs, h2, by rw [hb _ (by exact h1), h3]⟩
theorem BSl.below {w w' : World} {v : Value} {l : List Int} (h : BSl w v l) (hb : Below w.heap.size w w') : BSl w' v l :=
  h.keep hb.size fun _ hp => hb.cell hp
theorem BSl.shape {w : World} {v : Value} {l : List Int} (h : BSl w v l) : ∃ ao cap, v = .slice ao l.length cap ∧ l.length ≤ cap := by
  rcases h.2 with ⟨hv, hl⟩ | ⟨a, cap, hv, hcap, _⟩
  · exact ⟨none, 0, by rw [hv, hl]; rfl, by rw [hl]; exact Nat.le_refl _⟩
  · exact ⟨some a, cap, hv, hcap⟩

/-- A []byte of one's own, from block B on, that reads as the bytes l. -/
def OB (w : World) (B : Nat) (v : Value) (l : List Int) : Prop := Byt l ∧ w.ownsRow B 5 1 v l.length (l.map (Value.int .u8))

theorem OB.bsl {w : World} {B : Nat} {v : Value} {l : List Int} (h : OB w B v l) : BSl w v l := by
  refine ⟨h.1, ?_⟩
  rcases h.2.2 with ⟨hv, hl⟩ | ⟨g, cap, cur, hv, hg, hh, hnc, hcm, hcs, ht⟩
  · exact .inl ⟨hv, List.eq_nil_of_length_eq_zero hl⟩
  · refine .inr ⟨_, cap, hv, hnc, fun j hj => ⟨(Array.getElem?_eq_some_iff.1 hh).1, rfl, ?_⟩⟩
    show w.cell? ⟨g, 0 + j, none⟩ = _
    rw [Nat.zero_add, cell_of_row _ _ _ _ _ _ hh]
    have : (cur.toList.take (l.length * 1))[j]? = (l.map (Value.int .u8))[j]? := by rw [ht]
    rw [List.getElem?_take, if_pos (by omega)] at this
    simpa [List.getD_eq_getElem?_getD, hj] using this
theorem OB.more {w : World} {B B' : Nat} {v : Value} {l : List Int} (h : OB w B v l) (hB : B' ≤ B) : OB w B' v l := by
  refine ⟨h.1, h.2.1, ?_⟩
  rcases h.2.2 with h | ⟨g, cap, cur, hv, hg, r⟩
  · exact .inl h
  · exact .inr ⟨g, cap, cur, hv, Nat.le_trans hB hg, r⟩
theorem OB.below {w w' : World} {B : Nat} {v : Value} {l : List Int} (h : OB w B v l) (hb : Below w.heap.size w w') : OB w' B v l := by
  refine ⟨h.1, h.2.1, ?_⟩
  rcases h.2.2 with h | ⟨g, cap, cur, hv, hg, hh, r⟩
  · exact .inl h
  · exact .inr ⟨g, cap, cur, hv, hg, by rw [hb.block g (Array.getElem?_eq_some_iff.1 hh).1]; exact hh, r⟩

/-- What a call hands back that makes a []byte: it reads as l, it is new, and nothing that was there has turned. -/
def NewB (w : World) (l : List Int) (e : Ending) (w' : World) : Prop :=
  ∃ v, e = .returned v ∧ OB w' w.heap.size v l ∧ Below w.heap.size w w'

theorem infoU8 : (Try.prog.info? 5).map (fun i => (i.zero, i.size, i.bytes)) = some (some (.int .u8 0), 1, 1) := by kernel_rfl

theorem made_u8 (n : Nat) : madeCells (Value.int .u8 0).cells n = Array.replicate n (.int .u8 0) := by
  apply Array.ext'
  rw [show (Value.int .u8 0).cells = #[Value.int .u8 0] from rfl, toList_madeCells_one]
  simp

/-- make([]byte, n, m). -/
theorem wpList_make_u8c (w : World) {ops : Array Oper} {rest : List Oper} {o : Oper} {a : Act} {Q : Exit → Act → World → Prop}
    (hg : o.guard = none) (l c : Operand) (hop : o.op = Op.makeSlice 40 l c) (L C : Int) (n m : Nat) (hl : a.eval l = .int .i64 L) (hc : a.eval c = .int .i64 C) (hL : L = n) (hC : C = m) (hnm : n ≤ m) (hn : m ≤ 200000000000000)
    (hK : wpList Try.prog ops Q rest (a.put o.dst (.slice (some ⟨w.heap.size, 0, none⟩) n m)) (w.alloc (.cells (Array.replicate m (.int .u8 0)) 5))) :
    wpList Try.prog ops Q (o :: rest) a w := by
  refine wpList_plain hg fun K hK' => ?_
  obtain ⟨i, h2, h3, h4, h5⟩ := info_parts infoU8
  subst hL
  subst hC
  have hrun := run_make (P := Try.prog) w 40 5 i (.int .u8 0) Try.underlying40 h2 h3 .i64 .i64 n m (by omega) (by omega) (by rw [h5]; omega) (by omega)
  unfold Oper.wp
  simp only [Int.toNat_natCast, h4, Nat.mul_one, made_u8] at hrun
  simp [execOp, hop, hl, hc, hrun, Result.andThen]
  exact hK' _ _ hK

theorem wpList_make_u8 (w : World) {ops : Array Oper} {rest : List Oper} {o : Oper} {a : Act} {Q : Exit → Act → World → Prop}
    (hg : o.guard = none) (l c : Operand) (hop : o.op = Op.makeSlice 40 l c) (C : Int) (n : Nat) (hl : a.eval l = .int .i64 C) (hc : a.eval c = .int .i64 C) (hC : C = n) (hn : n ≤ 200000000000000)
    (hK : wpList Try.prog ops Q rest (a.put o.dst (.slice (some ⟨w.heap.size, 0, none⟩) n n)) (w.alloc (.cells (Array.replicate n (.int .u8 0)) 5))) :
    wpList Try.prog ops Q (o :: rest) a w := wpList_make_u8c w hg l c hop C C n n hl hc hC hC (Nat.le_refl _) hn hK

/-- Nothing but block g has been written. -/
def Wrote (w w' : World) (g : Nat) : Prop := w'.os = w.os ∧ w'.tape = w.tape ∧ w'.output = w.output ∧ w'.heap.size = w.heap.size ∧ ∀ k, k ≠ g → w'.heap[k]? = w.heap[k]?
theorem Wrote.refl (w : World) (g : Nat) : Wrote w w g := ⟨rfl, rfl, rfl, rfl, fun _ _ => rfl⟩
theorem Wrote.setCell (w : World) (g o : Nat) (u : Value) : Wrote w (w.setCell ⟨g, o, none⟩ u) g :=
  ⟨rfl, rfl, rfl, by simp [World.setCell], fun k hk => heap_setCell_other w ⟨g, o, none⟩ k u hk⟩
theorem Wrote.below {w w' : World} {g B : Nat} (h : Wrote w w' g) (hB : B ≤ g) : Below B w w' :=
  ⟨h.1, h.2.1, h.2.2.1, by rw [h.2.2.2.1]; exact Nat.le_refl _, fun k hk => h.2.2.2.2 k (by omega)⟩
theorem Wrote.setRow (w : World) (g : Nat) (cs : Array Value) : Wrote w (w.setRow g cs) g :=
  ⟨rfl, rfl, rfl, by simp [World.setRow], fun k hk => setRow_other w g k cs hk⟩

/-- copy into a row that is known whole: nothing but that row is written. -/
theorem wpList_copy_wrote {P : Program} {w : World} {ops : Array Oper} {rest : List Oper} {o : Oper} {a : Act} {Q : Exit → Act → World → Prop} (hgd : o.guard = none) (d s : Operand) (dT sT : TypeId)
    (ho : o.op = .call { callee := .builtin .copy, args := #[d, s], argTypes := #[dT, sT] }) (elem : TypeId) (hu : P.underlying dT = some (.slice elem)) (hsz : (P.info? elem).map (·.size) = some 1)
    (dp sp : Option Addr) (dLen dCap sLen sCap : Nat) (hd : a.eval d = .slice dp dLen dCap) (hs : a.eval s = .slice sp sLen sCap)
    (g off : Nat) (cur : List Value) (t : TypeId) (hg : w.heap[g]? = some (.cells cur.toArray t (0, 0))) (cs : List Value) (n : Nat) (hn : cs.length = n) (hnn : n = Nat.min sLen dLen)
    (hpos : 0 < cs.length → dp = some ⟨g, off, none⟩ ∧ ∃ ad, sp = some ad ∧ ∀ j v, cs[j]? = some v → w.cell? (ad.add j) = some v)
    (hfit : off + cs.length ≤ cur.length) (h1 : ∀ v ∈ cs, v.oneCell' = true)
    (h : ∀ w', Hid (w'.heap[g]? = some (.cells (splice cur off cs).toArray t (0, 0))) → Wrote w w' g → wpList P ops Q rest (a.put o.dst (goInt n)) w') :
    wpList P ops Q (o :: rest) a w := by
  subst hn
  by_cases h0 : cs.length = 0
  · obtain rfl : cs = [] := List.eq_nil_of_length_eq_zero h0
    refine wpList_copy_nothing hgd d s dT sT ho elem hu hsz dp sp dLen dCap sLen sCap hd hs (by simpa using hnn.symm) ?_
    exact h w (show _ = _ by simpa [splice] using hg) (Wrote.refl _ _)
  · obtain ⟨rfl, ad, rfl, hsrc⟩ := hpos (by omega)
    refine wpList_copy_own hgd d s dT sT ho elem hu hsz g off dLen dCap ad sLen sCap hd hs cur.toArray t hg cs hnn hsrc (by simpa using hfit) h1 ?_
    exact h _ (show _ = _ by simpa [splice] using setRow_heap w g _ _ t _ hg) (Wrote.setRow _ _ _)

theorem splice_whole {α : Type} (L cs : List α) (h : cs.length = L.length) : splice L 0 cs = cs := by
  simp [splice, h]

/-- The bytes of a []byte that was there lie where a copy or an append looks for them. -/
theorem src_cells {w w1 : World} {ao : Option Addr} {N cap : Nat} {l : List Int} (hs : BSl w (.slice ao N cap) l) (hb : ∀ p : Addr, p.block < w.heap.size → w1.cell? p = w.cell? p) (n : Nat) :
    0 < ((l.take n).map (Value.int .u8)).length → ∃ ad, ao = some ad ∧ ∀ j v, ((l.take n).map (Value.int .u8))[j]? = some v → w1.cell? (ad.add j) = some v := by
  intro hpos
  rcases hs.2 with ⟨_, hl⟩ | ⟨a, c, hv, _, hc⟩
  · rw [hl] at hpos; simp at hpos
  · obtain ⟨rfl, _⟩ : ao = some a ∧ N = l.length := by simpa using ⟨(Value.slice.inj hv).1, (Value.slice.inj hv).2.1⟩
    refine ⟨a, rfl, fun j v hj => ?_⟩
    have hjl : j < (l.take n).length := by simpa using (List.getElem?_eq_some_iff.1 hj).1
    have hjl' : j < l.length := by rw [List.length_take] at hjl; omega
    have hjn : j < n := by rw [List.length_take] at hjl; omega
    obtain ⟨h1, h2, h3⟩ := hc j hjl'
    obtain ⟨b, off, spot⟩ := a
    obtain rfl : spot = none := h2
    rw [Addr.add_lit, hb _ (by exact h1), h3, ← hj]
    simp [List.getD_eq_getElem?_getD, hjl', hjn]

theorem OB.of_heap {w : World} {B g cap : Nat} {l : List Int} {rest : List Value} (hb : Byt l) (hB : B ≤ g)
    (hg : w.heap[g]? = some (.cells ((l.map (Value.int .u8)) ++ rest).toArray 5 (0, 0))) (hcap : cap = l.length + rest.length) (hm : cap ≤ maxLen) :
    OB w B (.slice (some ⟨g, 0, none⟩) l.length cap) l := by
  refine ⟨hb, by simp, .inr ⟨g, cap, _, rfl, hB, hg, by omega, hm, by simp [hcap], ?_⟩⟩
  simp

theorem ob_empty (w : World) : OB (w.alloc (.cells #[] 5)) w.heap.size (.slice (some ⟨w.heap.size, 0, none⟩) 0 0) [] :=
  OB.of_heap (l := []) (rest := []) byt_nil (Nat.le_refl _) (heap_alloc_new w _) rfl (by decide)

/-- append of a []byte that was there onto a []byte of one's own. -/
theorem wpList_append_bytes (w : World) {ops : Array Oper} {rest : List Oper} {o : Oper} {a : Act} {Q : Exit → Act → World → Prop} (hgd : o.guard = none) (s x : Operand)
    (ho : o.op = .call { callee := .builtin .append, args := #[s, x], argTypes := #[40, 40] })
    (B : Nat) (v : Value) (l : List Int) (hs : a.eval s = v) (hown : OB w B v l) (w0 : World) (u : Value) (m : List Int) (hx : a.eval x = u) (hr : BSl w0 u m)
    (hk : ∀ p : Addr, p.block < w0.heap.size → w.cell? p = w0.cell? p) (hlen : l.length + m.length ≤ 140737488355328) (hB : B ≤ w.heap.size)
    (h : ∀ v' w', OB w' B v' (l ++ m) → Below B w w' → w.grownBy w' v.ownBlock → wpList Try.prog ops Q rest (a.put o.dst v') w') : wpList Try.prog ops Q (o :: rest) a w := by
  obtain ⟨i, h2, h3, h4, h5⟩ := info_parts infoU8
  obtain ⟨ao, cap, rfl, hcap⟩ := hr.shape
  have hby := byt_append hown.1 hr.1
  have e1 : (l ++ m).length = l.length + m.length := List.length_append
  have e2 : (l ++ m).map (Value.int .u8) = l.map (Value.int .u8) ++ m.map (Value.int .u8) := List.map_append
  cases ao with
  | none =>
    have hm : m = [] := by
      rcases hr.2 with ⟨_, hl⟩ | ⟨_, _, hv, _⟩
      · exact hl
      · simp at hv
    subst hm
    have hc0 : cap = 0 := by
      rcases hr.2 with ⟨hv, _⟩ | ⟨_, _, hv, _⟩
      · simp at hv; exact hv
      · simp at hv
    subst hc0
    refine wpList_append_own_none hgd s x 40 ho B 5 i 1 Try.underlying40 h2 v l.length _ hs hown.2 (by simpa using hx) ?_
    exact h v w (by simpa using hown) (Below.refl _ _) (World.grownBy.refl w _)
  | some ad =>
    have hcells : ∀ j v, (m.map (Value.int .u8))[j]? = some v → w.cell? (ad.add j) = some v := by
      intro j v hj
      have hjl : j < m.length := by simpa using (List.getElem?_eq_some_iff.1 hj).1
      obtain ⟨ad', he, hc⟩ := src_cells hr hk m.length (by simp; omega)
      obtain rfl : ad = ad' := by simpa using he
      exact hc j v (by simpa using hj)
    refine wpList_append_own w hgd s x 40 ho B 5 i (.int .u8 0) 1 1 Try.underlying40 h2 h3 h4 h5 rfl (by decide) v l.length _ hs hown.2 ad m.length cap _ hx (by simp) hcells (ints_oneCell _ _) (by simp only [maxLen]; omega) (by omega) hB fun v' w' h6 h7 _ => ?_
    refine h v' w' ⟨hby, by rw [e1, e2]; exact h6⟩ ((Below.refl _ _).grown h7 hB fun k hk => (hown.2.lt k hk).1) h7

theorem byt_single (x : Int) (h : 0 ≤ x ∧ x ≤ 255) : Byt [x] := byt_of_mem fun y hy => by simp at hy; subst hy; exact h

/-- append of one byte onto a []byte of one's own (the byte lies in the block that was made last). -/
theorem wpList_append_byte (w1 : World) (x : Int) {ops : Array Oper} {rest : List Oper} {o : Oper} {a : Act} {Q : Exit → Act → World → Prop} (hgd : o.guard = none) (s y : Operand)
    (ho : o.op = .call { callee := .builtin .append, args := #[s, y], argTypes := #[40, 40] })
    (B : Nat) (v : Value) (l : List Int) (hs : a.eval s = v) (hown : OB w1 B v l) (hx : 0 ≤ x ∧ x ≤ 255) (hy : a.eval y = .slice (some ⟨w1.heap.size, 0, none⟩) 1 1)
    (hlen : l.length + 1 ≤ 140737488355328) (hB : B ≤ w1.heap.size)
    (h : ∀ v' w', OB w' B v' (l ++ [x]) → Below B w1 w' → wpList Try.prog ops Q rest (a.put o.dst v') w') : wpList Try.prog ops Q (o :: rest) a (w1.alloc (.cells #[.int .u8 x] 5)) := by
  have hbel : Below w1.heap.size w1 (w1.alloc (.cells #[.int .u8 x] 5)) := (Below.refl _ _).alloc (Nat.le_refl _) _
  have hnew : (w1.alloc (.cells #[.int .u8 x] 5)).heap[w1.heap.size]? = some (.cells #[.int .u8 x] 5 (0, 0)) := heap_alloc_new w1 _
  have hr : BSl (w1.alloc (.cells #[.int .u8 x] 5)) (.slice (some ⟨w1.heap.size, 0, none⟩) 1 1) [x] := by
    refine ⟨byt_single x hx, .inr ⟨_, 1, rfl, Nat.le_refl _, fun j hj => ?_⟩⟩
    have hj0 : j = 0 := by simpa using hj
    subst hj0
    refine ⟨by simp, rfl, ?_⟩
    rw [cell_of_row _ _ _ _ _ _ hnew]; rfl
  refine wpList_append_bytes _ hgd s y ho B v l hs (hown.below hbel) _ _ [x] hy hr (fun _ _ => rfl) (by simpa using hlen) (by simp; omega) fun v' w' h1 h2 _ => ?_
  exact h v' w' h1 ((hbel.mono hB).trans h2)

theorem conv_bsl {w : World} {v : Value} {l : List Int} (hs : BSl w v l) : (convert 40 9 v).run Try.prog w = .ok (.string (strOfNums l)) w := by
  rcases hs.2 with ⟨rfl, rfl⟩ | ⟨⟨b, off, spot⟩, cap, rfl, _, hc⟩
  · exact run_convert_bytes_nil w 40 5 Try.underlying40 Try.underlying5 0 0 _ Try.underlying9
  · by_cases h0 : l.length = 0
    · obtain rfl : l = [] := List.eq_nil_of_length_eq_zero h0
      rw [run_convert_bytes_string w 40 9 5 _ _ cap Try.underlying40 Try.underlying5 Try.underlying9,
        run_bytesToString w _ _ cap [] (by simp [loadCells, loadCellsFrom, Sem.run_pure])]
      rfl
    · obtain ⟨_, hsp, _⟩ := hc 0 (by omega)
      obtain rfl : spot = none := hsp
      exact run_convert_bytes_arg w 40 5 Try.underlying40 Try.underlying5 b off l.length cap l rfl (fun i hi => (hc i hi).2.2) _ Try.underlying9

theorem conv_later {w : World} {v : Value} {l : List Int} (hs : BSl w v l) : ∀ W, Below w.heap.size w W → (convert 40 9 v).run Try.prog W = .ok (.string (strOfNums l)) W :=
  fun _ hb => conv_bsl (hs.below hb)

section
variable {H : Type} {enc : TypeId × Value → H} {W : World} {base : Nat} {spare : Nat → Bool} {held : Bool}
open Go.ChangeShapes Go.WideShapes
/-- A []byte that came in, and how long it may be. -/
theorem bsl_open_sz {v : Value} {d : DataW H} {p : List MemPlace} {r : Reach} {b0 : Nat} (hv : Value.okWide Try.prog W r b0 40 v) (h : DataW.Trod enc Try.prog W base (fun _ => true) held 40 v d p) :
    ∃ l, BSl W v l ∧ ∀ (ts : List TypeId) (ds : List (DataW H)) (j : Nat), ((DataW.weightsEach Try.prog ts ds).all fun x => decide (x ≤ reachBytes)) = true → ts[j]? = some 40 → ds[j]? = some d → l.length ≤ 140737488351232 := by
  obtain ⟨a0, len0, cap0, rfl⟩ := okWide_slice Try.underlying40 hv
  obtain ⟨fuel, hf⟩ := h
  rcases open_ints Try.underlying40 Try.underlying5 (by kernel_rfl) hf with ⟨hcs, _⟩ | ⟨x, l, c, zs, hcs, _, hl, hm, hz, hx, hcell, hwz⟩
  · simp [Value.cells] at hcs
    obtain ⟨rfl, rfl, rfl⟩ := hcs
    exact ⟨[], ⟨byt_nil, .inl ⟨rfl, rfl⟩⟩, fun _ _ _ _ _ _ => by simp⟩
  · simp [Value.cells] at hcs
    obtain ⟨rfl, rfl, rfl⟩ := hcs
    have hz' : zs.length = cap0 := by simpa using hz
    have hlen : (zs.take len0).length = len0 := by simp; omega
    have hget : ∀ j, j < len0 → (zs.take len0).getD j 0 = zs.getD j 0 := fun j hj => by
      simp [List.getD_eq_getElem?_getD, hj]
    have hbyt : Byt (zs.take len0) := byt_of_mem fun x hx => bounds_u8 (hwz x (List.mem_of_mem_take hx))
    refine ⟨_, ⟨hbyt, .inr ⟨x, cap0, by rw [hlen], by omega, fun j hj => ?_⟩⟩, fun ts ds j hsz ht hd => ?_⟩
    · rw [hlen] at hj
      have h0 := hcell j (by omega)
      obtain ⟨b, off, spot⟩ := x
      have hspot : spot = none := by
        have h00 := hcell 0 (by omega)
        simpa [Addr.add] using World.cell?_spot h00
      subst hspot
      rw [Addr.add_lit] at h0
      exact ⟨by have := block_lt_of_cell h0; exact this, rfl, by rw [hget j hj]; exact h0⟩
    · have hdx := (Prod.mk.inj hx).1
      rw [hdx] at hd
      have h1 := sized_slice hsz ht hd Try.underlying40
      have hby : Try.prog.bytesOf 5 = 1 := by kernel_rfl
      rw [hby] at h1
      simp only [lits, List.length_map, List.length_take, List.length_drop, reachBytes] at h1
      rw [hlen]; omega
theorem bsl_open {v : Value} {d : DataW H} {p : List MemPlace} {r : Reach} {b0 : Nat} (hv : Value.okWide Try.prog W r b0 40 v) (h : DataW.Trod enc Try.prog W base (fun _ => true) held 40 v d p) : ∃ l, BSl W v l := by
  obtain ⟨l, h1, _⟩ := bsl_open_sz hv h
  exact ⟨l, h1⟩
end

end Go.Proofs.Ytmjndpmpeidhaaa
