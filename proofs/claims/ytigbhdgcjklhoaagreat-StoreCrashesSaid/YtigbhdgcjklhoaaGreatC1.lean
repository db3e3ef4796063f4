/- Words for memory: values of type []byte that read as lists, rows of one's own, make, copy and append on them. -/
import Derived.Test.YtigbhdgcjklhoaaGreatRows
import Derived.WalkKit
import Derived.WalkSpells
import Derived.WalkLawsBesides
import Derived.BigQuiet
import Derived.Lib.Hide
import Derived.Laws.CopyOwn
import Derived.Laws.BytesArg
import Derived.Laws.AppendOwnNone
import Derived.Maps.AppendAt
import Derived.OwnWalk
import Derived.OpenShut
import Derived.SizedLaws
import Derived.Deep.MidRow
import Derived.Deep.WholeRow
import Derived.Deep.RegionHeldLaw
import Derived.Deep.RegionHeld3
import Derived.Deep.AppendLies
import Derived.Great.BuildSlice
namespace Go.Proofs.YtigbhdgcjklhoaaGreat
set_option maxRecDepth 100000
open Go.RowKit

theorem ret_int {k : IntKind} {a b : Int} (h : a = b) : Ending.returned (.int k a) = .returned (.int k b) := by rw [h]
theorem ret_bool {a b : Bool} (h : a = b) : Ending.returned (.bool a) = .returned (.bool b) := by rw [h]
theorem below_drewN' {B : Nat} {a w : World} (h : Below B a w) (n : Nat) : Below B a (w.drewN n) := ⟨h.os, h.tape, h.output, h.size, h.block⟩
theorem below_box (w : World) (o : Obj) : Below w.heap.size w (w.alloc o) := (Below.refl _ _).alloc (Nat.le_refl _) _
theorem below_boxN (w : World) (o : Obj) (n : Nat) : Below w.heap.size w ((w.alloc o).drewN n) := below_drewN' (below_box w o) n
theorem quiet_back {P : Program} {f : FuncId} {args : Array Value} {w : World} {n : Nat} {v : Value}
    (h : Calls P f args (w.drewN n) fun e w' => e = .returned v ∧ w.drewN n = w') : Calls P f args (w.drewN n) fun e w'' => e = .returned v ∧ ∃ m, w'' = w.drewN m :=
  Calls.quiet_of_same (h.mono fun _ _ ⟨he, hw⟩ => ⟨he, hw.symm⟩)

/-- Each number of the list is a byte. -/
def Byt (l : List Int) : Prop := ∀ j, 0 ≤ l.getD j 0 ∧ l.getD j 0 ≤ 255
theorem byt_nil : Byt [] := fun j => by simp
theorem byt_of_mem {l : List Int} (h : ∀ x ∈ l, 0 ≤ x ∧ x ≤ 255) : Byt l := fun j => by
  by_cases hj : j < l.length
  · have : l.getD j 0 ∈ l := by simp [List.getD_eq_getElem?_getD, hj]
    exact h _ this
  · rw [List.getD_eq_getElem?_getD, List.getElem?_eq_none (by omega)]; exact ⟨by decide, by decide⟩
theorem byt_mem {l : List Int} (h : Byt l) : ∀ x ∈ l, 0 ≤ x ∧ x ≤ 255 := fun x hx => by
  obtain ⟨j, hj, rfl⟩ := List.getElem_of_mem hx
  have := h j
  simpa [List.getD_eq_getElem?_getD, hj] using this
theorem byt_append {a b : List Int} (ha : Byt a) (hb : Byt b) : Byt (a ++ b) :=
  byt_of_mem fun x hx => (List.mem_append.1 hx).elim (byt_mem ha x) (byt_mem hb x)
theorem byt_replicate (n : Nat) : Byt (List.replicate n 0) := byt_of_mem fun x hx => by rw [List.eq_of_mem_replicate hx]; decide
theorem byt_take {l : List Int} (h : Byt l) (n : Nat) : Byt (l.take n) := byt_of_mem fun x hx => byt_mem h x (List.mem_of_mem_take hx)
theorem byt_drop {l : List Int} (h : Byt l) (n : Nat) : Byt (l.drop n) := byt_of_mem fun x hx => byt_mem h x (List.mem_of_mem_drop hx)

/-- A value of type []byte that reads as the bytes l. -/
def BSl (w : World) (v : Value) (l : List Int) : Prop :=
  Byt l ∧ ((v = .slice none 0 0 ∧ l = []) ∨ ∃ a cap, v = .slice (some a) l.length cap ∧ l.length ≤ cap ∧ ∀ j, j < l.length → a.block < w.heap.size ∧ a.spot = none ∧ w.cell? ⟨a.block, a.off + j, none⟩ = some (.int .u8 (l.getD j 0)))

theorem bsl_nil (w : World) : BSl w (.slice none 0 0) [] := ⟨byt_nil, .inl ⟨rfl, rfl⟩⟩
theorem BSl.drewN {w : World} {v : Value} {l : List Int} (h : BSl w v l) (n : Nat) : BSl (w.drewN n) v l := h
theorem BSl.keep {w w' : World} {v : Value} {l : List Int} (h : BSl w v l) (hs : w.heap.size ≤ w'.heap.size) (hb : ∀ p : Addr, p.block < w.heap.size → w'.cell? p = w.cell? p) : BSl w' v l := by
  refine ⟨h.1, ?_⟩
  rcases h.2 with h | ⟨a, cap, hv, hcap, hc⟩
  · exact .inl h
  · refine .inr ⟨a, cap, hv, hcap, fun j hj => ?_⟩
    obtain ⟨h1, h2, h3⟩ := hc j hj
    exact ⟨Nat.lt_of_lt_of_le h1 hs, h2, by rw [hb _ (by exact h1), h3]⟩
theorem BSl.below {w w' : World} {v : Value} {l : List Int} (h : BSl w v l) (hb : Below w.heap.size w w') : BSl w' v l :=
  h.keep hb.size fun _ hp => hb.cell hp
theorem BSl.shape {w : World} {v : Value} {l : List Int} (h : BSl w v l) : ∃ ao cap, v = .slice ao l.length cap ∧ l.length ≤ cap := by
  rcases h.2 with ⟨hv, hl⟩ | ⟨a, cap, hv, hcap, _⟩
  · exact ⟨none, 0, by rw [hv, hl]; rfl, by rw [hl]; exact Nat.le_refl _⟩
  · exact ⟨some a, cap, hv, hcap⟩

/-- A []byte of one's own, from block B on, that reads as the bytes l. -/
def OB (w : World) (B : Nat) (v : Value) (l : List Int) : Prop := Byt l ∧ w.ownsRow B 5 1 v l.length (l.map (Value.int .u8))

theorem OB.bsl {w : World} {B : Nat} {v : Value} {l : List Int} (h : OB w B v l) : BSl w v l := by
  refine ⟨h.1, ?_⟩
  rcases h.2.2 with ⟨hv, hl⟩ | ⟨g, cap, cur, hv, hg, hh, hnc, hcm, hcs, ht⟩
  · exact .inl ⟨hv, List.eq_nil_of_length_eq_zero hl⟩
  · refine .inr ⟨_, cap, hv, hnc, fun j hj => ⟨(Array.getElem?_eq_some_iff.1 hh).1, rfl, ?_⟩⟩
    show w.cell? ⟨g, 0 + j, none⟩ = _
    rw [Nat.zero_add, cell_of_row _ _ _ _ _ _ hh]
    have : (cur.toList.take (l.length * 1))[j]? = (l.map (Value.int .u8))[j]? := by rw [ht]
    rw [List.getElem?_take, if_pos (by omega)] at this
    simpa [List.getD_eq_getElem?_getD, hj] using this
theorem OB.more {w : World} {B B' : Nat} {v : Value} {l : List Int} (h : OB w B v l) (hB : B' ≤ B) : OB w B' v l := by
  refine ⟨h.1, h.2.1, ?_⟩
  rcases h.2.2 with h | ⟨g, cap, cur, hv, hg, r⟩
  · exact .inl h
  · exact .inr ⟨g, cap, cur, hv, Nat.le_trans hB hg, r⟩
theorem OB.below {w w' : World} {B : Nat} {v : Value} {l : List Int} (h : OB w B v l) (hb : Below w.heap.size w w') : OB w' B v l := by
  refine ⟨h.1, h.2.1, ?_⟩
  rcases h.2.2 with h | ⟨g, cap, cur, hv, hg, hh, r⟩
  · exact .inl h
  · exact .inr ⟨g, cap, cur, hv, hg, by rw [hb.block g (Array.getElem?_eq_some_iff.1 hh).1]; exact hh, r⟩

/-- What a call hands back that makes a []byte: it reads as l, it is new, and nothing that was there has turned. -/
def NewB (w : World) (l : List Int) (e : Ending) (w' : World) : Prop :=
  ∃ v, e = .returned v ∧ OB w' w.heap.size v l ∧ Below w.heap.size w w'

theorem infoU8 : (Tryz.prog.info? 5).map (fun i => (i.zero, i.size, i.bytes)) = some (some (.int .u8 0), 1, 1) := by kernel_rfl

theorem made_u8 (n : Nat) : madeCells (Value.int .u8 0).cells n = Array.replicate n (.int .u8 0) := by
  apply Array.ext'
  rw [show (Value.int .u8 0).cells = #[Value.int .u8 0] from rfl, toList_madeCells_one]
  simp

/-- make([]byte, n, m). -/
theorem wpList_make_u8c (w : World) {ops : Array Oper} {rest : List Oper} {o : Oper} {a : Act} {Q : Exit → Act → World → Prop}
    (hg : o.guard = none) (l c : Operand) (hop : o.op = Op.makeSlice 59 l c) (L C : Int) (n m : Nat) (hl : a.eval l = .int .i64 L) (hc : a.eval c = .int .i64 C) (hL : L = n) (hC : C = m) (hnm : n ≤ m) (hn : m ≤ 200000000000000)
    (hK : wpList Tryz.prog ops Q rest (a.put o.dst (.slice (some ⟨w.heap.size, 0, none⟩) n m)) (w.alloc (.cells (Array.replicate m (.int .u8 0)) 5))) :
    wpList Tryz.prog ops Q (o :: rest) a w := by
  refine wpList_plain hg fun K hK' => ?_
  obtain ⟨i, h2, h3, h4, h5⟩ := info_parts infoU8
  subst hL
  subst hC
  have hrun := run_make (P := Tryz.prog) w 59 5 i (.int .u8 0) Tryz.underlying59 h2 h3 .i64 .i64 n m (by omega) (by omega) (by rw [h5]; omega) (by omega)
  unfold Oper.wp
  simp only [Int.toNat_natCast, h4, Nat.mul_one, made_u8] at hrun
  simp [execOp, hop, hl, hc, hrun, Result.andThen]
  exact hK' _ _ hK

theorem wpList_make_u8 (w : World) {ops : Array Oper} {rest : List Oper} {o : Oper} {a : Act} {Q : Exit → Act → World → Prop}
    (hg : o.guard = none) (l c : Operand) (hop : o.op = Op.makeSlice 59 l c) (C : Int) (n : Nat) (hl : a.eval l = .int .i64 C) (hc : a.eval c = .int .i64 C) (hC : C = n) (hn : n ≤ 200000000000000)
    (hK : wpList Tryz.prog ops Q rest (a.put o.dst (.slice (some ⟨w.heap.size, 0, none⟩) n n)) (w.alloc (.cells (Array.replicate n (.int .u8 0)) 5))) :
    wpList Tryz.prog ops Q (o :: rest) a w := wpList_make_u8c w hg l c hop C C n n hl hc hC hC (Nat.le_refl _) hn hK

/-- Nothing but block g has been written. -/
def Wrote (w w' : World) (g : Nat) : Prop := w'.os = w.os ∧ w'.tape = w.tape ∧ w'.output = w.output ∧ w'.heap.size = w.heap.size ∧ ∀ k, k ≠ g → w'.heap[k]? = w.heap[k]?
theorem Wrote.refl (w : World) (g : Nat) : Wrote w w g := ⟨rfl, rfl, rfl, rfl, fun _ _ => rfl⟩
theorem Wrote.setCell (w : World) (g o : Nat) (u : Value) : Wrote w (w.setCell ⟨g, o, none⟩ u) g :=
  ⟨rfl, rfl, rfl, by simp [World.setCell], fun k hk => heap_setCell_other w ⟨g, o, none⟩ k u hk⟩
theorem Wrote.below {w w' : World} {g B : Nat} (h : Wrote w w' g) (hB : B ≤ g) : Below B w w' :=
  ⟨h.1, h.2.1, h.2.2.1, by rw [h.2.2.2.1]; exact Nat.le_refl _, fun k hk => h.2.2.2.2 k (by omega)⟩
theorem Wrote.setRow (w : World) (g : Nat) (cs : Array Value) : Wrote w (w.setRow g cs) g :=
  ⟨rfl, rfl, rfl, by simp [World.setRow], fun k hk => setRow_other w g k cs hk⟩

/-- copy into a row that is known whole: nothing but that row is written. -/
theorem wpList_copy_wrote {P : Program} {w : World} {ops : Array Oper} {rest : List Oper} {o : Oper} {a : Act} {Q : Exit → Act → World → Prop} (hgd : o.guard = none) (d s : Operand) (dT sT : TypeId)
    (ho : o.op = .call { callee := .builtin .copy, args := #[d, s], argTypes := #[dT, sT] }) (elem : TypeId) (hu : P.underlying dT = some (.slice elem)) (hsz : (P.info? elem).map (·.size) = some 1)
    (dp sp : Option Addr) (dLen dCap sLen sCap : Nat) (hd : a.eval d = .slice dp dLen dCap) (hs : a.eval s = .slice sp sLen sCap)
    (g off : Nat) (cur : List Value) (t : TypeId) (hg : w.heap[g]? = some (.cells cur.toArray t (0, 0))) (cs : List Value) (n : Nat) (hn : cs.length = n) (hnn : n = Nat.min sLen dLen)
    (hpos : 0 < cs.length → dp = some ⟨g, off, none⟩ ∧ ∃ ad, sp = some ad ∧ ∀ j v, cs[j]? = some v → w.cell? (ad.add j) = some v)
    (hfit : off + cs.length ≤ cur.length) (h1 : ∀ v ∈ cs, v.oneCell' = true)
    (h : ∀ w', Hid (w'.heap[g]? = some (.cells (splice cur off cs).toArray t (0, 0))) → Wrote w w' g → wpList P ops Q rest (a.put o.dst (goInt n)) w') :
    wpList P ops Q (o :: rest) a w := by
  subst hn
  by_cases h0 : cs.length = 0
  · obtain rfl : cs = [] := List.eq_nil_of_length_eq_zero h0
    refine wpList_copy_nothing hgd d s dT sT ho elem hu hsz dp sp dLen dCap sLen sCap hd hs (by simpa using hnn.symm) ?_
    exact h w (show _ = _ by simpa [splice] using hg) (Wrote.refl _ _)
  · obtain ⟨rfl, ad, rfl, hsrc⟩ := hpos (by omega)
    refine wpList_copy_own hgd d s dT sT ho elem hu hsz g off dLen dCap ad sLen sCap hd hs cur.toArray t hg cs hnn hsrc (by simpa using hfit) h1 ?_
    exact h _ (show _ = _ by simpa [splice] using setRow_heap w g _ _ t _ hg) (Wrote.setRow _ _ _)

theorem splice_whole {α : Type} (L cs : List α) (h : cs.length = L.length) : splice L 0 cs = cs := by
  simp [splice, h]

/-- The bytes of a []byte that was there lie where a copy or an append looks for them. -/
theorem src_cells {w w1 : World} {ao : Option Addr} {N cap : Nat} {l : List Int} (hs : BSl w (.slice ao N cap) l) (hb : ∀ p : Addr, p.block < w.heap.size → w1.cell? p = w.cell? p) (n : Nat) :
    0 < ((l.take n).map (Value.int .u8)).length → ∃ ad, ao = some ad ∧ ∀ j v, ((l.take n).map (Value.int .u8))[j]? = some v → w1.cell? (ad.add j) = some v := by
  intro hpos
  rcases hs.2 with ⟨_, hl⟩ | ⟨a, c, hv, _, hc⟩
  · rw [hl] at hpos; simp at hpos
  · obtain ⟨rfl, _⟩ : ao = some a ∧ N = l.length := by simpa using ⟨(Value.slice.inj hv).1, (Value.slice.inj hv).2.1⟩
    refine ⟨a, rfl, fun j v hj => ?_⟩
    have hjl : j < (l.take n).length := by simpa using (List.getElem?_eq_some_iff.1 hj).1
    have hjl' : j < l.length := by rw [List.length_take] at hjl; omega
    have hjn : j < n := by rw [List.length_take] at hjl; omega
    obtain ⟨h1, h2, h3⟩ := hc j hjl'
    obtain ⟨b, off, spot⟩ := a
    obtain rfl : spot = none := h2
    rw [Addr.add_lit, hb _ (by exact h1), h3, ← hj]
    simp [List.getD_eq_getElem?_getD, hjl', hjn]

theorem OB.of_heap {w : World} {B g cap : Nat} {l : List Int} {rest : List Value} (hb : Byt l) (hB : B ≤ g)
    (hg : w.heap[g]? = some (.cells ((l.map (Value.int .u8)) ++ rest).toArray 5 (0, 0))) (hcap : cap = l.length + rest.length) (hm : cap ≤ maxLen) :
    OB w B (.slice (some ⟨g, 0, none⟩) l.length cap) l := by
  refine ⟨hb, by simp, .inr ⟨g, cap, _, rfl, hB, hg, by omega, hm, by simp [hcap], ?_⟩⟩
  simp

theorem ob_empty (w : World) : OB (w.alloc (.cells #[] 5)) w.heap.size (.slice (some ⟨w.heap.size, 0, none⟩) 0 0) [] :=
  OB.of_heap (l := []) (rest := []) byt_nil (Nat.le_refl _) (heap_alloc_new w _) rfl (by decide)

/-- append of a []byte that was there onto a []byte of one's own. -/
theorem wpList_append_bytes (w : World) {ops : Array Oper} {rest : List Oper} {o : Oper} {a : Act} {Q : Exit → Act → World → Prop} (hgd : o.guard = none) (s x : Operand)
    (ho : o.op = .call { callee := .builtin .append, args := #[s, x], argTypes := #[59, 59] })
    (B : Nat) (v : Value) (l : List Int) (hs : a.eval s = v) (hown : OB w B v l) (w0 : World) (u : Value) (m : List Int) (hx : a.eval x = u) (hr : BSl w0 u m)
    (hk : ∀ p : Addr, p.block < w0.heap.size → w.cell? p = w0.cell? p) (hlen : l.length + m.length ≤ 140737488355328) (hB : B ≤ w.heap.size)
    (h : ∀ v' w', OB w' B v' (l ++ m) → Below B w w' → w.grownBy w' v.ownBlock → wpList Tryz.prog ops Q rest (a.put o.dst v') w') : wpList Tryz.prog ops Q (o :: rest) a w := by
  obtain ⟨i, h2, h3, h4, h5⟩ := info_parts infoU8
  obtain ⟨ao, cap, rfl, hcap⟩ := hr.shape
  have hby := byt_append hown.1 hr.1
  have e1 : (l ++ m).length = l.length + m.length := List.length_append
  have e2 : (l ++ m).map (Value.int .u8) = l.map (Value.int .u8) ++ m.map (Value.int .u8) := List.map_append
  cases ao with
  | none =>
    have hm : m = [] := by
      rcases hr.2 with ⟨_, hl⟩ | ⟨_, _, hv, _⟩
      · exact hl
      · simp at hv
    subst hm
    have hc0 : cap = 0 := by
      rcases hr.2 with ⟨hv, _⟩ | ⟨_, _, hv, _⟩
      · simp at hv; exact hv
      · simp at hv
    subst hc0
    refine wpList_append_own_none hgd s x 59 ho B 5 i 1 Tryz.underlying59 h2 v l.length _ hs hown.2 (by simpa using hx) ?_
    exact h v w (by simpa using hown) (Below.refl _ _) (World.grownBy.refl w _)
  | some ad =>
    have hcells : ∀ j v, (m.map (Value.int .u8))[j]? = some v → w.cell? (ad.add j) = some v := by
      intro j v hj
      have hjl : j < m.length := by simpa using (List.getElem?_eq_some_iff.1 hj).1
      obtain ⟨ad', he, hc⟩ := src_cells hr hk m.length (by simp; omega)
      obtain rfl : ad = ad' := by simpa using he
      exact hc j v (by simpa using hj)
    refine wpList_append_own w hgd s x 59 ho B 5 i (.int .u8 0) 1 1 Tryz.underlying59 h2 h3 h4 h5 rfl (by decide) v l.length _ hs hown.2 ad m.length cap _ hx (by simp) hcells (ints_oneCell _ _) (by simp only [maxLen]; omega) (by omega) hB fun v' w' h6 h7 _ => ?_
    refine h v' w' ⟨hby, by rw [e1, e2]; exact h6⟩ ((Below.refl _ _).grown h7 hB fun k hk => (hown.2.lt k hk).1) h7

theorem byt_single (x : Int) (h : 0 ≤ x ∧ x ≤ 255) : Byt [x] := byt_of_mem fun y hy => by simp at hy; subst hy; exact h

/-- append of one byte onto a []byte of one's own (the byte lies in the block that was made last). -/
theorem wpList_append_byte (w1 : World) (x : Int) {ops : Array Oper} {rest : List Oper} {o : Oper} {a : Act} {Q : Exit → Act → World → Prop} (hgd : o.guard = none) (s y : Operand)
    (ho : o.op = .call { callee := .builtin .append, args := #[s, y], argTypes := #[59, 59] })
    (B : Nat) (v : Value) (l : List Int) (hs : a.eval s = v) (hown : OB w1 B v l) (hx : 0 ≤ x ∧ x ≤ 255) (hy : a.eval y = .slice (some ⟨w1.heap.size, 0, none⟩) 1 1)
    (hlen : l.length + 1 ≤ 140737488355328) (hB : B ≤ w1.heap.size)
    (h : ∀ v' w', OB w' B v' (l ++ [x]) → Below B w1 w' → wpList Tryz.prog ops Q rest (a.put o.dst v') w') : wpList Tryz.prog ops Q (o :: rest) a (w1.alloc (.cells #[.int .u8 x] 5)) := by
  have hbel : Below w1.heap.size w1 (w1.alloc (.cells #[.int .u8 x] 5)) := (Below.refl _ _).alloc (Nat.le_refl _) _
  have hnew : (w1.alloc (.cells #[.int .u8 x] 5)).heap[w1.heap.size]? = some (.cells #[.int .u8 x] 5 (0, 0)) := heap_alloc_new w1 _
  have hr : BSl (w1.alloc (.cells #[.int .u8 x] 5)) (.slice (some ⟨w1.heap.size, 0, none⟩) 1 1) [x] := by
    refine ⟨byt_single x hx, .inr ⟨_, 1, rfl, Nat.le_refl _, fun j hj => ?_⟩⟩
    have hj0 : j = 0 := by simpa using hj
    subst hj0
    refine ⟨by simp, rfl, ?_⟩
    rw [cell_of_row _ _ _ _ _ _ hnew]; rfl
  refine wpList_append_bytes _ hgd s y ho B v l hs (hown.below hbel) _ _ [x] hy hr (fun _ _ => rfl) (by simpa using hlen) (by simp; omega) fun v' w' h1 h2 _ => ?_
  exact h v' w' h1 ((hbel.mono hB).trans h2)

theorem conv_bsl {w : World} {v : Value} {l : List Int} (hs : BSl w v l) : (convert 59 9 v).run Tryz.prog w = .ok (.string (strOfNums l)) w := by
  rcases hs.2 with ⟨rfl, rfl⟩ | ⟨⟨b, off, spot⟩, cap, rfl, _, hc⟩
  · exact run_convert_bytes_nil w 59 5 Tryz.underlying59 Tryz.underlying5 0 0 _ Tryz.underlying9
  · by_cases h0 : l.length = 0
    · obtain rfl : l = [] := List.eq_nil_of_length_eq_zero h0
      rw [run_convert_bytes_string w 59 9 5 _ _ cap Tryz.underlying59 Tryz.underlying5 Tryz.underlying9,
        run_bytesToString w _ _ cap [] (by simp [loadCells, loadCellsFrom, Sem.run_pure])]
      rfl
    · obtain ⟨_, hsp, _⟩ := hc 0 (by omega)
      obtain rfl : spot = none := hsp
      exact run_convert_bytes_arg w 59 5 Tryz.underlying59 Tryz.underlying5 b off l.length cap l rfl (fun i hi => (hc i hi).2.2) _ Tryz.underlying9

theorem conv_later {w : World} {v : Value} {l : List Int} (hs : BSl w v l) : ∀ W, Below w.heap.size w W → (convert 59 9 v).run Tryz.prog W = .ok (.string (strOfNums l)) W :=
  fun _ hb => conv_bsl (hs.below hb)

section
variable {H : Type} {enc : TypeId × Value → H} {W : World} {base : Nat} {spare : Nat → Bool} {held : Bool}
open Go.ChangeShapes Go.WideShapes
/-- A []byte that came in, and how long it may be. -/
theorem bsl_open_sz {v : Value} {d : DataW H} {p : List MemPlace} {r : Reach} {b0 : Nat} (hv : Value.okWide Tryz.prog W r b0 59 v) (h : DataW.Trod enc Tryz.prog W base (fun _ => true) held 59 v d p) :
    ∃ l, BSl W v l ∧ ∀ (ts : List TypeId) (ds : List (DataW H)) (j : Nat), ((DataW.weightsEach Tryz.prog ts ds).all fun x => decide (x ≤ reachBytes)) = true → ts[j]? = some 59 → ds[j]? = some d → l.length ≤ 140737488351232 := by
  obtain ⟨a0, len0, cap0, rfl⟩ := okWide_slice Tryz.underlying59 hv
  obtain ⟨fuel, hf⟩ := h
  rcases open_ints Tryz.underlying59 Tryz.underlying5 (by kernel_rfl) hf with ⟨hcs, _⟩ | ⟨x, l, c, zs, hcs, _, hl, hm, hz, hx, hcell, hwz⟩
  · simp [Value.cells] at hcs
    obtain ⟨rfl, rfl, rfl⟩ := hcs
    exact ⟨[], ⟨byt_nil, .inl ⟨rfl, rfl⟩⟩, fun _ _ _ _ _ _ => by simp⟩
  · simp [Value.cells] at hcs
    obtain ⟨rfl, rfl, rfl⟩ := hcs
    have hz' : zs.length = cap0 := by simpa using hz
    have hlen : (zs.take len0).length = len0 := by simp; omega
    have hget : ∀ j, j < len0 → (zs.take len0).getD j 0 = zs.getD j 0 := fun j hj => by
      simp [List.getD_eq_getElem?_getD, hj]
    have hbyt : Byt (zs.take len0) := byt_of_mem fun x hx => bounds_u8 (hwz x (List.mem_of_mem_take hx))
    refine ⟨_, ⟨hbyt, .inr ⟨x, cap0, by rw [hlen], by omega, fun j hj => ?_⟩⟩, fun ts ds j hsz ht hd => ?_⟩
    · rw [hlen] at hj
      have h0 := hcell j (by omega)
      obtain ⟨b, off, spot⟩ := x
      have hspot : spot = none := by
        have h00 := hcell 0 (by omega)
        simpa [Addr.add] using World.cell?_spot h00
      subst hspot
      rw [Addr.add_lit] at h0
      exact ⟨by have := block_lt_of_cell h0; exact this, rfl, by rw [hget j hj]; exact h0⟩
    · have hdx := (Prod.mk.inj hx).1
      rw [hdx] at hd
      have h1 := sized_slice hsz ht hd Tryz.underlying59
      have hby : Tryz.prog.bytesOf 5 = 1 := by kernel_rfl
      rw [hby] at h1
      simp only [lits, List.length_map, List.length_take, List.length_drop, reachBytes] at h1
      rw [hlen]; omega
theorem bsl_open {v : Value} {d : DataW H} {p : List MemPlace} {r : Reach} {b0 : Nat} (hv : Value.okWide Tryz.prog W r b0 59 v) (h : DataW.Trod enc Tryz.prog W base (fun _ => true) held 59 v d p) : ∃ l, BSl W v l := by
  obtain ⟨l, h1, _⟩ := bsl_open_sz hv h
  exact ⟨l, h1⟩
end

end Go.Proofs.YtigbhdgcjklhoaaGreat

/- Rows of elements of one size, laid flat; a stretch of cells stored into a row that is known whole. -/
namespace Go.Proofs.YtigbhdgcjklhoaaGreat
set_option maxRecDepth 100000
open Go.RowKit
set_option linter.unusedVariables false

section
variable {α : Type} {f : α → List Value} {s : Nat}
theorem flat_length : ∀ {L : List α}, (∀ x ∈ L, (f x).length = s) → (L.flatMap f).length = L.length * s
  | [], _ => by simp
  | x :: L, h => by
    rw [List.flatMap_cons, List.length_append, flat_length (fun z hz => h z (List.mem_cons_of_mem _ hz)), h x (by simp), List.length_cons, Nat.succ_mul]; omega
theorem flat_get : ∀ {L : List α}, (∀ x ∈ L, (f x).length = s) → ∀ (i : Nat) (hi : i < L.length), ((L.flatMap f).drop (i * s)).take s = f L[i]
  | [], _, i, hi => by simp at hi
  | x :: L, h, 0, _ => by
    rw [List.flatMap_cons, Nat.zero_mul, List.drop_zero, List.take_append_of_le_length (by rw [h x (by simp)]; exact Nat.le_refl _), ← h x (by simp), List.take_length]; rfl
  | x :: L, h, i + 1, hi => by
    have hx := h x (by simp)
    rw [List.flatMap_cons, show (i + 1) * s = (f x).length + i * s by rw [hx, Nat.succ_mul]; omega, List.drop_length_add_append]
    exact flat_get (fun z hz => h z (List.mem_cons_of_mem _ hz)) i (by simpa using hi)
theorem flat_set : ∀ {L : List α}, (∀ x ∈ L, (f x).length = s) → ∀ (i : Nat) (hi : i < L.length) (y : α), (f y).length = s → splice (L.flatMap f) (i * s) (f y) = (L.set i y).flatMap f
  | [], _, i, hi, _, _ => by simp at hi
  | x :: L, h, 0, _, y, hy => by
    have hx := h x (by simp)
    simp only [splice, Nat.zero_mul, List.take_zero, List.nil_append, Nat.zero_add, List.set_cons_zero, List.flatMap_cons]
    rw [hy, ← hx, List.drop_left]
  | x :: L, h, i + 1, hi, y, hy => by
    have hx := h x (by simp)
    have ih := flat_set (fun z hz => h z (List.mem_cons_of_mem _ hz)) i (by simpa using hi) y hy
    rw [List.set_cons_succ, List.flatMap_cons, List.flatMap_cons, ← ih]
    simp only [splice]
    rw [show (i + 1) * s = (f x).length + i * s by rw [hx, Nat.succ_mul]; omega, List.take_length_add_append, Nat.add_assoc, List.drop_length_add_append, List.append_assoc]
end

/-- A store of many cells into a row that is known whole. -/
theorem setCells_row {w : World} {g o : Nat} {t : TypeId} {vs cur : List Value} (hg : w.heap[g]? = some (.cells cur.toArray t (0, 0))) (hl : o + vs.length ≤ cur.length) (h1 : ∀ v ∈ vs, v.oneCell' = true) :
    w.setCells g o vs = w.setRow g (splice cur o vs).toArray := by
  have a := run_storeCells_cells (P := Tryz.prog) g o vs 0 w
    (fun j hj => by rw [cell_of_row _ _ _ _ _ _ hg]; simp; omega)
    (fun j hj => by simp [World.frozen?, hg]) h1
  have b := run_storeCells_at Tryz.prog g o t vs 0 cur.toArray w hg (by simpa using hl) h1
  rw [a] at b
  injection b with _ b
  simpa [splice] using b
theorem there_row {w : World} {g o n : Nat} {t : TypeId} {cur : List Value} (hg : w.heap[g]? = some (.cells cur.toArray t (0, 0))) (hl : o + n ≤ cur.length) : w.there g o n := fun j hj => by
  refine ⟨by rw [cell_of_row _ _ _ _ _ _ hg]; simp; omega, by simp [World.frozen?, hg]⟩
theorem range_row {w : World} {g o : Nat} {t : TypeId} {vs cur : List Value} (hg : w.heap[g]? = some (.cells cur.toArray t (0, 0))) (h : (cur.drop o).take vs.length = vs) : w.rangeAt g o vs := fun j v hv => by
  rw [cell_of_row _ _ _ _ _ _ hg]
  have hj := (List.getElem?_eq_some_iff.1 hv).1
  rw [← h, List.getElem?_take, if_pos hj, List.getElem?_drop] at hv
  simpa using hv

end Go.Proofs.YtigbhdgcjklhoaaGreat

/- Rows of elements of one size, laid flat; a stretch of cells stored into a row that is known whole. -/
namespace Go.Proofs.YtigbhdgcjklhoaaGreat
set_option maxRecDepth 100000
open Go.RowKit
set_option linter.unusedVariables false

/-- The cells of a block. -/
def cB (b : List Int) : List Value := b.map (Value.int .u8)
theorem cB_length (b : List Int) : (cB b).length = b.length := by simp [cB]
theorem cB_one (b : List Int) : ∀ v ∈ cB b, v.oneCell' = true := fun v hv => by obtain ⟨x, _, rfl⟩ := List.mem_map.1 hv; rfl
/-- The cells of an unflushed Write. -/
def cU (x : Nat × List Int) : List Value := .int .i64 x.1 :: cB x.2
theorem cU_length (x : Nat × List Int) : (cU x).length = x.2.length + 1 := by simp [cU, cB_length]
theorem cU_one (x : Nat × List Int) : ∀ v ∈ cU x, v.oneCell' = true := fun v hv => by
  rcases List.mem_cons.1 hv with rfl | h
  · rfl
  · exact cB_one _ v h
/-- A block of 256 bytes. -/
def Blk (b : List Int) : Prop := b.length = 256 ∧ Byt b
theorem flatB_len {L : List (List Int)} (h : ∀ b ∈ L, Blk b) : ∀ x ∈ L, (cB x).length = 256 := fun x hx => by rw [cB_length, (h x hx).1]
theorem flatU_len {L : List (Nat × List Int)} (h : ∀ x ∈ L, Blk x.2) : ∀ x ∈ L, (cU x).length = 257 := fun x hx => by rw [cU_length, (h x hx).1]

/-- The cells of a block of zero bytes. -/
def zB : List Value := List.replicate 256 (.int .u8 0)
theorem zB_length : zB.length = 256 := List.length_replicate
theorem infoB : (Tryz.prog.info? 93).map (fun i => (i.zero, i.size, i.bytes)) = some (some (.agg zB.toArray), 256, 256) := by kernel_rfl
theorem infoW : (Tryz.prog.info? 95).map (fun i => (i.zero, i.size, i.bytes)) = some (some (.agg (Value.int .i64 0 :: zB).toArray), 257, 264) := by kernel_rfl

/-- A variable of type block. -/
theorem wpList_allocB (w : World) {ops : Array Oper} {rest : List Oper} {o : Oper} {a : Act} {Q : Exit → Act → World → Prop} (hg : o.guard = none) (hop : o.op = Op.alloc 93)
    (hK : wpList Tryz.prog ops Q rest (a.put o.dst (.pointer (some ⟨w.heap.size, 0, none⟩))) (w.alloc (.cells zB.toArray 93))) : wpList Tryz.prog ops Q (o :: rest) a w := by
  refine wpList_plain hg fun K hK' => ?_
  have hz := (zero_of_info (v := .agg zB.toArray) (n := 256) (t := 93) (P := Tryz.prog) (by
    obtain ⟨i, h2, h3, h4, h5⟩ := info_parts infoB
    simp [h2, h3, h4])).1 w
  unfold Oper.wp execOp
  simp only [hop, Instr.alloc, newVar, newRow, Sem.run_bind, hz, Result.andThen_ok, Value.cells]
  exact hK' _ _ hK
end Go.Proofs.YtigbhdgcjklhoaaGreat

/- Package disk: blockOf. -/
namespace Go.Proofs.YtigbhdgcjklhoaaGreat
set_option maxRecDepth 100000
open Go.RowKit
set_option linter.unusedVariables false

theorem sizeB : (Tryz.prog.info? 93).map (·.size) = some 256 := by kernel_rfl
theorem built_zero : Tryz.prog.built 93 [] = some zB.toArray := by kernel_rfl

/-- block{}. -/
theorem wpList_buildB (w : World) {ops : Array Oper} {rest : List Oper} {o : Oper} {a : Act} {Q : Exit → Act → World → Prop} (hg : o.guard = none) (hop : o.op = Op.build 93 #[])
    (hK : wpList Tryz.prog ops Q rest (a.put o.dst (.agg zB.toArray)) w) : wpList Tryz.prog ops Q (o :: rest) a w := by
  refine wpList_plain hg fun K hK' => ?_
  have hb : Tryz.prog.built 93 ((#[] : Array (Nat × Operand)).map fun (i, x) => (i, a.eval x)).toList = some zB.toArray := by simpa using built_zero
  exact wp_build 93 #[] hop (by rw [hb]; rfl) (by rw [hb]; exact hK' _ _ hK)
/-- A whole block into a variable of type block, and out of it. -/
theorem wpList_storeB (w : World) {ops : Array Oper} {rest : List Oper} {o : Oper} {a : Act} {Q : Exit → Act → World → Prop} (hg : o.guard = none) (x y : Operand) (hop : o.op = Op.store 93 x y)
    (g : Nat) (t : TypeId) (old cells : List Value) (hx : a.eval x = .pointer (some ⟨g, 0, none⟩)) (hy : a.eval y = .agg cells.toArray) (hh : w.heap[g]? = some (.cells old.toArray t (0, 0))) (ho : old.length = 256) (hc : cells.length = 256) (h1 : ∀ v ∈ cells, v.oneCell' = true)
    (hK : wpList Tryz.prog ops Q rest (a.put o.dst undef) (w.setRow g cells.toArray)) : wpList Tryz.prog ops Q (o :: rest) a w :=
  wpList_store_row hg 93 x y hop g cells.toArray hx hy t old.toArray hh (by rw [sizeB]; simp [hc]) (by simp [ho, hc]) (all_oneCell_toArray h1) hK
theorem wpList_loadB (w : World) {ops : Array Oper} {rest : List Oper} {o : Oper} {a : Act} {Q : Exit → Act → World → Prop} (hg : o.guard = none) (x : Operand) (hop : o.op = Op.load 93 x)
    (g off : Nat) (cells : List Value) (hx : a.eval x = .pointer (some ⟨g, off, none⟩)) (hr : w.rangeAt g off cells) (hc : cells.length = 256)
    (hK : wpList Tryz.prog ops Q rest (a.put o.dst (.agg cells.toArray)) w) : wpList Tryz.prog ops Q (o :: rest) a w :=
  wpList_load_mid hg 93 x hop g off hx cells _ hr Tryz.underlying93 rfl (by rw [sizeB, hc]) hK

set_option maxRecDepth 100000 in
theorem dBlockOf_any {w : World} {v : Value} {l : List Int} (hv : BSl w v l) (hl : l.length = 256) :
    Calls Tryz.prog 67 #[v] w fun e w' => e = .returned (.agg (cB l).toArray) ∧ Below w.heap.size w w' := by
  obtain ⟨ao, cap, rfl, hcap⟩ := hv.shape
  obtain ⟨M, hM⟩ : ∃ M, M = l.length := ⟨_, rfl⟩
  have hlen : Tryz.prog.arrayLen 93 = 256 := by kernel_rfl
  have harr : Tryz.prog.underlying 93 = some (.array 256 5) := Tryz.underlying93
  have HZ := Lib.hid zB_length
  have HL := Lib.hid hl
  have hone : ∀ v ∈ zB, v.oneCell' = true := fun v hv => by rw [List.eq_of_mem_replicate hv]; rfl
  rw [← hM] at hv ⊢
  have hsrc := src_cells hv (fun _ _ => rfl) (w1 := w) l.length
  rw [List.take_length] at hsrc
  have HM : Hid (M = 256) := by rw [hM]; exact HL
  clear hl hcap hM
  go_enter Tryz.func67, Tryz.ntmps67
  go_wp2_with (first
    | with_reducible refine wpList_allocB _ rfl rfl ?_
    | with_reducible refine wpList_buildB _ rfl rfl ?_
    | (refine wpList_storeB _ rfl _ _ (by rfl) _ 93 zB zB (by rfl) (by rfl) (heap_alloc_last _ _) HZ.out HZ.out hone ?_
       rw [World.setRow_alloc_new])
    | (refine wpList_copy_wrote (by rfl) _ _ _ _ (by rfl) 5 Tryz.underlying59 (by kernel_rfl) _ _ _ _ _ _ (by rfl) (by rfl) (w.heap.size + 1) 0 zB 93 ?_ (cB l) 256 (by rw [cB_length]; exact HL.out) ?_ ?_ ?_ (cB_one l) ?_))
  · rw [show w.heap.size + 1 = (w.alloc (.cells zB.toArray 93)).heap.size by simp]; exact heap_alloc_last _ _
  · rw [HM.out]; rfl
  · intro hpos
    obtain ⟨ad, rfl, hc⟩ := hsrc hpos
    refine ⟨ad, rfl, fun j v hj => ?_⟩
    have hcj := hc j v hj
    have hlt := World.block_lt_of_cell? w _ hcj
    rw [World.cell?_alloc_lt _ _ _ (Nat.lt_of_lt_of_le hlt (by simp)), World.cell?_alloc_lt _ _ _ hlt, hcj]
  · rw [cB_length, HL.out, HZ.out]; exact Nat.le_refl _
  intro w' hrow hwr
  rw [splice_whole _ _ (by rw [cB_length, HL.out, HZ.out])] at hrow
  have hrow0 : w'.heap[w.heap.size]? = some (.cells zB.toArray 93 (0, 0)) := by
    rw [hwr.2.2.2.2 _ (by omega), heap_alloc_old _ _ (by simp)]; exact heap_alloc_last _ _
  go_wp2_with (first
    | (refine wpList_loadB _ rfl _ (by rfl) _ 0 (cB l) (by rfl) (range_row hrow.out (by rw [List.drop_zero, List.take_length])) (by rw [cB_length]; exact HL.out) ?_)
    | (refine wpList_storeB _ rfl _ _ (by rfl) _ 93 zB (cB l) (by rfl) (by rfl) hrow0 HZ.out (by rw [cB_length]; exact HL.out) (cB_one l) ?_))
  have hrow2 := setRow_heap w' w.heap.size _ (cB l).toArray 93 _ hrow0
  refine bodyPost_ret (v := .agg (cB l).toArray) ?_ rfl ⟨rfl, ?_⟩
  · exact results_cell_row rfl _ _ w.heap.size 93 (cB l).toArray (0, 0) _ (by rfl) hrow2 harr rfl (by rw [sizeB]; simp [cB_length, HL.out])
  · have b1 : Below w.heap.size w ((w.alloc (.cells zB.toArray 93)).alloc (.cells zB.toArray 93)) := ((Below.refl _ _).alloc (Nat.le_refl _) _).alloc (by simp) _
    have b2 : Below w.heap.size _ w' := hwr.below (by omega)
    exact (b1.trans b2).trans ((Wrote.setRow w' w.heap.size _).below (Nat.le_refl _))
end Go.Proofs.YtigbhdgcjklhoaaGreat

/- Package disk: what a disk is in memory; New, Blocks, Unflushed, has, fits, powered. -/
namespace Go.Proofs.YtigbhdgcjklhoaaGreat
set_option maxRecDepth 100000
open Go.RowKit
set_option linter.unusedVariables false

/-- A disk at bp: its blocks F (flushed) at bf, V (visible) at bv, its unflushed Writes U in u. -/
structure DskAt (w : World) (B bp bf bv : Nat) (u : Value) (F V : List (List Int)) (U : List (Nat × List Int)) (fu : Bool) (le : Int) (dn : Bool) : Prop where
  bB : B ≤ bp ∧ B ≤ bf ∧ B ≤ bv
  ne : bp ≠ bf ∧ bp ≠ bv ∧ bf ≠ bv
  hp : w.heap[bp]? = some (.cells #[.slice (some ⟨bf, 0, none⟩) F.length F.length, .slice (some ⟨bv, 0, none⟩) V.length V.length, u, .bool fu, .int .i64 le, .bool dn] 51 (0, 0))
  hf : w.heap[bf]? = some (.cells (F.flatMap cB).toArray 93 (0, 0))
  hv : w.heap[bv]? = some (.cells (V.flatMap cB).toArray 93 (0, 0))
  hu : w.ownsRow B 95 257 u U.length (U.flatMap cU)
  une : u.ownBlock ≠ some bp ∧ u.ownBlock ≠ some bf ∧ u.ownBlock ≠ some bv
  okF : ∀ b ∈ F, Blk b
  okV : ∀ b ∈ V, Blk b
  okU : ∀ x ∈ U, x.1 < V.length ∧ Blk x.2
  len : F.length = V.length
  max : V.length ≤ 2000

/-- A disk with power and no fuse. -/
def Dsk (w : World) (B : Nat) (p : Value) (F V : List (List Int)) (U : List (Nat × List Int)) : Prop :=
  ∃ bp bf bv u, p = .pointer (some ⟨bp, 0, none⟩) ∧ DskAt w B bp bf bv u F V U false 0 false

theorem DskAt.below {w w' : World} {B bp bf bv : Nat} {u : Value} {F V : List (List Int)} {U : List (Nat × List Int)} {fu dn : Bool} {le : Int} (h : DskAt w B bp bf bv u F V U fu le dn) (hb : Below w.heap.size w w') : DskAt w' B bp bf bv u F V U fu le dn := by
  have key : ∀ {g : Nat} {o : Obj}, w.heap[g]? = some o → w'.heap[g]? = some o := fun hg => by
    rw [hb.block _ (Array.getElem?_eq_some_iff.1 hg).1]; exact hg
  refine { h with hp := key h.hp, hf := key h.hf, hv := key h.hv, hu := ⟨h.hu.1, ?_⟩ }
  rcases h.hu.2 with h | ⟨g, cap, cur, hv, hg, hh, r⟩
  · exact .inl h
  · exact .inr ⟨g, cap, cur, hv, hg, key hh, r⟩
theorem Dsk.below {w w' : World} {B : Nat} {p : Value} {F V : List (List Int)} {U : List (Nat × List Int)} (h : Dsk w B p F V U) (hb : Below w.heap.size w w') : Dsk w' B p F V U := by
  obtain ⟨bp, bf, bv, u, hp, h⟩ := h
  exact ⟨bp, bf, bv, u, hp, h.below hb⟩

section
variable {w : World} {B bp bf bv : Nat} {u : Value} {F V : List (List Int)} {U : List (Nat × List Int)} {fu dn : Bool} {le : Int}
theorem DskAt.c0 (h : DskAt w B bp bf bv u F V U fu le dn) : w.cell? ⟨bp, 0, none⟩ = some (.slice (some ⟨bf, 0, none⟩) F.length F.length) := by rw [cell_of_row _ _ _ _ _ _ h.hp]; rfl
theorem DskAt.c1 (h : DskAt w B bp bf bv u F V U fu le dn) : w.cell? ⟨bp, 1, none⟩ = some (.slice (some ⟨bv, 0, none⟩) V.length V.length) := by rw [cell_of_row _ _ _ _ _ _ h.hp]; rfl
theorem DskAt.c2 (h : DskAt w B bp bf bv u F V U fu le dn) : w.cell? ⟨bp, 2, none⟩ = some u := by rw [cell_of_row _ _ _ _ _ _ h.hp]; rfl
theorem DskAt.c3 (h : DskAt w B bp bf bv u F V U fu le dn) : w.cell? ⟨bp, 3, none⟩ = some (.bool fu) := by rw [cell_of_row _ _ _ _ _ _ h.hp]; rfl
theorem DskAt.c4 (h : DskAt w B bp bf bv u F V U fu le dn) : w.cell? ⟨bp, 4, none⟩ = some (.int .i64 le) := by rw [cell_of_row _ _ _ _ _ _ h.hp]; rfl
theorem DskAt.c5 (h : DskAt w B bp bf bv u F V U fu le dn) : w.cell? ⟨bp, 5, none⟩ = some (.bool dn) := by rw [cell_of_row _ _ _ _ _ _ h.hp]; rfl
theorem DskAt.fr (h : DskAt w B bp bf bv u F V U fu le dn) (i : Nat) : w.frozen? ⟨bp, i, none⟩ = false := by simp [World.frozen?, h.hp]
theorem DskAt.shapeU (h : DskAt w B bp bf bv u F V U fu le dn) : ∃ ao cap, u = .slice ao U.length cap := by
  rcases h.hu.2 with ⟨hv, h0⟩ | ⟨g, cap, cur, hv, _⟩
  · exact ⟨none, 0, by rw [hv, h0]⟩
  · exact ⟨_, cap, hv⟩
end

theorem dBlocks_at {w : World} {B : Nat} {p : Value} {F V : List (List Int)} {U : List (Nat × List Int)} (h : Dsk w B p F V U) :
    Calls Tryz.prog 55 #[p] w fun e w' => e = .returned (.int .i64 V.length) ∧ w = w' := by
  obtain ⟨bp, bf, bv, u, rfl, h⟩ := h
  have c1 := h.c1
  go_enter Tryz.func55, Tryz.ntmps55
  go_wp2
  go_ret
  exact ⟨rfl, rfl⟩
theorem dPowered_at {w : World} {B bp bf bv : Nat} {u : Value} {F V : List (List Int)} {U : List (Nat × List Int)} {le : Int} (h : DskAt w B bp bf bv u F V U false le false) :
    Calls Tryz.prog 52 #[.pointer (some ⟨bp, 0, none⟩)] w fun e w' => e = .returned (.bool true) ∧ w = w' := by
  have c3 := h.c3
  have c5 := h.c5
  go_enter Tryz.func52, Tryz.ntmps52
  go_wp2
  go_ret
  exact ⟨rfl, rfl⟩
theorem dHas_at {w : World} {B bp bf bv : Nat} {u : Value} {F V : List (List Int)} {U : List (Nat × List Int)} {fu dn : Bool} {le : Int} (h : DskAt w B bp bf bv u F V U fu le dn) (n : Int) :
    Calls Tryz.prog 60 #[.pointer (some ⟨bp, 0, none⟩), .int .i64 n] w fun e w' => e = .returned (.bool (decide (0 ≤ n ∧ n < V.length))) ∧ w = w' := by
  have c1 := h.c1
  by_cases h0 : 0 ≤ n
  · go_enter Tryz.func60, Tryz.ntmps60
    go_wp2
    go_ret
    refine ⟨?_, rfl⟩
    simp [h0]
  · go_enter Tryz.func60, Tryz.ntmps60
    go_wp2
    go_ret
    refine ⟨?_, rfl⟩
    rw [decide_eq_false (by omega)]; rfl
theorem dFits_at {w : World} {B bp bf bv : Nat} {u : Value} {F V : List (List Int)} {U : List (Nat × List Int)} {fu dn : Bool} {le : Int} (h : DskAt w B bp bf bv u F V U fu le dn) (n : Int) {v : Value} {l : List Int} (hv : BSl w v l) :
    Calls Tryz.prog 66 #[.pointer (some ⟨bp, 0, none⟩), .int .i64 n, v] w fun e w' => e = .returned (.bool (decide ((0 ≤ n ∧ n < V.length) ∧ l.length = 256))) ∧ w = w' := by
  obtain ⟨ao, cap, rfl, _⟩ := hv.shape
  by_cases hn : 0 ≤ n ∧ n < V.length
  · go_enter Tryz.func66, Tryz.ntmps66
    go_wp2_with (go_at_call 60; refine (dHas_at h n).mono ?_; rintro e w' ⟨rfl, rfl⟩; rw [decide_eq_true hn])
    go_ret
    refine ⟨?_, rfl⟩
    by_cases hl : l.length = 256
    · rw [decide_eq_true ⟨hn, hl⟩]; simp [hl]
    · rw [decide_eq_false (fun h => hl h.2)]; simp; omega
  · go_enter Tryz.func66, Tryz.ntmps66
    go_wp2_with (go_at_call 60; refine (dHas_at h n).mono ?_; rintro e w' ⟨rfl, rfl⟩; rw [decide_eq_false hn])
    go_ret
    exact ⟨by rw [decide_eq_false (fun h => hn h.1)]; rfl, rfl⟩
end Go.Proofs.YtigbhdgcjklhoaaGreat

/- Package disk: New. -/
namespace Go.Proofs.YtigbhdgcjklhoaaGreat
set_option maxRecDepth 100000
open Go.RowKit
set_option linter.unusedVariables false

def zb : List Int := List.replicate 256 0
theorem zb_length : zb.length = 256 := List.length_replicate
theorem zb_blk : Blk zb := ⟨zb_length, byt_replicate 256⟩
theorem cB_zb : cB zb = List.replicate 256 (.int .u8 0) := List.map_replicate
theorem zRow_eq (n : Nat) : (List.replicate n zb).flatMap cB = List.replicate (n * 256) (Value.int .u8 0) := by
  refine List.eq_replicate_iff.2 ⟨?_, fun v hv => ?_⟩
  · rw [flat_length (s := 256) (fun x hx => by rw [List.eq_of_mem_replicate hx, cB_length, zb_length]), List.length_replicate]
  · obtain ⟨b, hb, hv⟩ := List.mem_flatMap.1 hv
    rw [List.eq_of_mem_replicate hb, cB_zb] at hv
    exact List.eq_of_mem_replicate hv
theorem made_zero (n : Nat) : madeCells zB.toArray n = (List.replicate n (Value.int .u8 0)).toArray := by
  apply Array.ext
  · simp [madeCells]
  · intro i h1 h2
    have hs : zB.toArray.size = 256 := by rw [List.size_toArray, zB_length]
    have hlt : i % zB.toArray.size < zB.toArray.size := Nat.mod_lt _ (by rw [hs]; decide)
    simp only [madeCells, Array.getElem_map, Array.getElem_range, List.getElem_toArray, List.getElem_replicate]
    rw [getElem!_pos zB.toArray _ hlt, List.getElem_toArray]
    exact List.eq_of_mem_replicate (List.getElem_mem _)
def zRow (n : Nat) : Array Value := ((List.replicate n zb).flatMap cB).toArray
theorem make_blocks (W : World) (n : Nat) (hn : n ≤ 2000) : (Instr.makeSlice 48 (.int .i64 n) (.int .i64 n)).run Tryz.prog W = .ok (.slice (some ⟨W.heap.size, 0, none⟩) n n) (W.alloc (.cells (zRow n) 93)) := by
  obtain ⟨i, h2, h3, h4, h5⟩ := info_parts infoB
  have hrun := run_make (P := Tryz.prog) W 48 93 i (.agg zB.toArray) Tryz.underlying48 h2 h3 .i64 .i64 n n (by omega) (by omega) (by rw [h5]; omega) (by omega)
  simp only [Int.toNat_natCast, h4] at hrun
  rw [hrun, show (Value.agg zB.toArray).cells = zB.toArray from rfl, made_zero, zRow, zRow_eq]

theorem newDsk (w : World) (n : Nat) (hn : n ≤ 2000) (bf bv : Nat) (hb : (bf = w.heap.size ∧ bv = w.heap.size + 1) ∨ (bf = w.heap.size + 1 ∧ bv = w.heap.size)) :
    Dsk (((w.alloc (.cells (zRow n) 93)).alloc (.cells (zRow n) 93)).alloc (.cells #[.slice (some ⟨bf, 0, none⟩) n n, .slice (some ⟨bv, 0, none⟩) n n, .slice none 0 0, .bool false, .int .i64 0, .bool false] 51)).drew
      w.heap.size (.pointer (some ⟨w.heap.size + 1 + 1, 0, none⟩)) (List.replicate n zb) (List.replicate n zb) [] := by
  have s1 : (w.alloc (.cells (zRow n) 93)).heap.size = w.heap.size + 1 := by simp
  have s2 : ((w.alloc (.cells (zRow n) 93)).alloc (.cells (zRow n) 93)).heap.size = w.heap.size + 1 + 1 := by simp
  have row : ∀ (o : Obj) g, g = w.heap.size ∨ g = w.heap.size + 1 → (((w.alloc (.cells (zRow n) 93)).alloc (.cells (zRow n) 93)).alloc o).heap[g]? = some (.cells (zRow n) 93 (0, 0)) := by
    rintro o g (rfl | rfl)
    · rw [heap_alloc_old _ _ (by rw [s2]; omega), heap_alloc_old _ _ (by rw [s1]; omega)]; exact heap_alloc_last _ _
    · rw [heap_alloc_old _ _ (by rw [s2]; omega), ← s1]; exact heap_alloc_last _ _
  have hlen : (List.replicate n zb).length = n := List.length_replicate
  refine ⟨w.heap.size + 1 + 1, bf, bv, .slice none 0 0, rfl, ?_⟩
  refine ⟨by omega, by omega, ?_, row _ bf (by omega), row _ bv (by omega), ⟨rfl, .inl ⟨rfl, rfl⟩⟩, ⟨by simp [Value.ownBlock], by simp [Value.ownBlock], by simp [Value.ownBlock]⟩,
    fun b hb => by rw [List.eq_of_mem_replicate hb]; exact zb_blk, fun b hb => by rw [List.eq_of_mem_replicate hb]; exact zb_blk, fun x hx => by simp at hx, rfl, by rw [hlen]; exact hn⟩
  rw [hlen, ← s2]
  exact heap_alloc_last _ _

theorem dNew_at (w : World) (n : Nat) (hn : n ≤ 2000) :
    Calls Tryz.prog 5 #[.int .i64 n] w fun e w' => ∃ p, e = .returned p ∧ p ≠ .pointer none ∧ Dsk w' w.heap.size p (List.replicate n zb) (List.replicate n zb) [] ∧ Below w.heap.size w w' := by
  have hmk := fun W => make_blocks W n hn
  have e1 : Max.max (n : Int) 0 = n := by omega
  have e2 : Min.min (n : Int) 2000 = n := by omega
  have e3 : ((n : Int) < 0) = False := by simp
  go_enter Tryz.func5, Tryz.ntmps5
  go_wp2_with fail
  go_region
  · go_wp2
    go_ret
    exact ⟨_, rfl, by simp, newDsk w n hn _ _ (by omega), below_drewN' ((((Below.refl _ _).alloc (Nat.le_refl _) _).alloc (by simp) _).alloc (by simp; omega) _) 1⟩
  · go_wp2
    go_ret
    exact ⟨_, rfl, by simp, newDsk w n hn _ _ (by omega), below_drewN' ((((Below.refl _ _).alloc (Nat.le_refl _) _).alloc (by simp) _).alloc (by simp; omega) _) 1⟩
end Go.Proofs.YtigbhdgcjklhoaaGreat

/- Package disk: Read, Write. -/
namespace Go.Proofs.YtigbhdgcjklhoaaGreat
set_option maxRecDepth 100000
open Go.RowKit
set_option linter.unusedVariables false

set_option maxRecDepth 100000 in
theorem dRead_at {w : World} {B : Nat} {p : Value} {F V : List (List Int)} {U : List (Nat × List Int)} (h : Dsk w B p F V U) (n : Nat) (hn : n < V.length) :
    Calls Tryz.prog 43 #[p, .int .i64 n] w fun e w' => ∃ v, e = .returned (.tuple #[v, .int .i64 0]) ∧ BSl w' v V[n] ∧ Below w.heap.size w w' := by
  obtain ⟨bp, bf, bv, u, rfl, h⟩ := h
  have hlen : Tryz.prog.arrayLen 93 = 256 := by kernel_rfl
  have hblk : Blk V[n] := h.okV _ (List.getElem_mem _)
  have hmem := range_row h.hv (o := n * 256) (vs := cB V[n]) (by rw [cB_length, hblk.1]; exact flat_get (flatB_len h.okV) n hn)
  obtain ⟨b, hb⟩ : ∃ b, b = V[n] := ⟨_, rfl⟩
  rw [← hb] at hblk hmem ⊢
  have HL : Hid ((cB b).length = 256) := by show _ = _; rw [cB_length, hblk.1]
  have HR := Lib.hid hmem
  have HB := Lib.hid hblk
  have HZ := Lib.hid zB_length
  have HV := Lib.hid h.hv
  have hone : ∀ v ∈ zB, v.oneCell' = true := fun v hv => by rw [List.eq_of_mem_replicate hv]; rfl
  have c1 := h.c1
  have c5 := h.c5
  have hd : decide (0 ≤ (n : Int) ∧ (n : Int) < V.length) = true := decide_eq_true (by omega)
  have hn' : (n : Int) < V.length := by omega
  clear hb hblk hmem
  go_enter Tryz.func43, Tryz.ntmps43
  go_wp2_with (first
    | (go_at_call 60; refine (dHas_at h n).mono ?_; rintro e w' ⟨rfl, rfl⟩; rw [hd])
    | with_reducible refine wpList_allocB _ rfl rfl ?_
    | (refine wpList_loadB _ rfl _ (by rfl) bv (n * 256) (cB b) (by rfl) HR.out HL.out ?_)
    | (refine wpList_storeB _ rfl _ _ (by rfl) _ 93 zB (cB b) (by rfl) (by rfl) (heap_alloc_last _ _) HZ.out HL.out (cB_one b) ?_
       rw [World.setRow_alloc_new]))
  go_ret2
  refine ⟨_, rfl, ⟨HB.out.2, .inr ⟨_, 256, by rw [HB.out.1]; rfl, by rw [HB.out.1]; exact Nat.le_refl _, fun j hj => ⟨by simp, rfl, ?_⟩⟩⟩, (Below.refl _ _).alloc (Nat.le_refl _) _⟩
  show (w.alloc (.cells (cB b).toArray 93)).cell? ⟨w.heap.size, 0 + j, none⟩ = _
  rw [cell_of_row _ _ _ _ _ _ (heap_alloc_last w _)]
  simp [cB, List.getD_eq_getElem?_getD, hj]
end Go.Proofs.YtigbhdgcjklhoaaGreat

/- A write's value, and a slice of one write. -/
namespace Go.Proofs.YtigbhdgcjklhoaaGreat
set_option maxRecDepth 100000
open Go.RowKit
set_option linter.unusedVariables false

theorem foldl_set : ∀ (l : List Value) (k off : Nat) (cells : List Value), off + k + l.length ≤ cells.length →
    (l.zipIdx k).foldl (fun (cs : Array Value) (x : Value × Nat) => cs.setIfInBounds (off + x.2) x.1) cells.toArray = (splice cells (off + k) l).toArray
  | [], k, off, cells, _ => by simp [splice]
  | v :: l, k, off, cells, h => by
    have hl : off + k + (l.length + 1) ≤ cells.length := by simpa using h
    rw [List.zipIdx_cons, List.foldl_cons, show cells.toArray.setIfInBounds (off + k) v = (cells.set (off + k) v).toArray by simp,
      foldl_set l (k + 1) off _ (by rw [List.length_set]; omega)]
    have e := list_seg_step cells (off + k) v l (by omega)
    simp only [splice, ← Nat.add_assoc]
    simpa [Nat.add_assoc] using congrArg List.toArray e

theorem fill_cons (place : Nat → Option (Nat × Nat)) (cells : List Value) (i off size : Nat) (v : Value) (vs : List Value) (rest : List (Nat × Value)) (hp : place i = some (off, size)) (hv : v.cells = vs.toArray) (hs : vs.length = size) (hl : off + size ≤ cells.length) :
    Instr.fill place cells.toArray ((i, v) :: rest) = Instr.fill place (splice cells off vs).toArray rest := by
  have hf := foldl_set vs 0 off cells (by omega)
  rw [Nat.add_zero] at hf
  rw [Instr.fill, hp]
  have c1 : ¬ (vs.toArray.size ≠ size ∨ off + vs.toArray.size > cells.toArray.size) := by simp; omega
  simp only [hv]
  rw [if_neg (by simpa using c1)]
  congr 1
  rw [← hf]
  simp [← Array.foldl_toList]

theorem build_write (W : World) (n : Int) (b : List Int) (hb : b.length = 256) : (Instr.build 95 #[(0, .int .i64 n), (1, .agg (cB b).toArray)]).run Tryz.prog W = .ok (.agg (.int .i64 n :: cB b).toArray) W := by
  refine run_build W 95 _ _ ?_
  have hz := zB_length
  have hcb := cB_length b
  obtain ⟨it, h2, h3, h4, h5⟩ := info_parts infoW
  have hu : Tryz.prog.underlying 95 = _ := Tryz.underlying95
  unfold Program.built
  rw [h2, hu]
  simp only [h3]
  generalize hm : (List.mapM (m := Option) _ _ : Option (List (Nat × Nat))) = m
  have hm' : m = some [(0, 1), (1, 256)] := by rw [← hm]; kernel_rfl
  subst hm'
  clear hm
  show Instr.fill _ (Value.int .i64 0 :: zB).toArray _ = _
  rw [fill_cons _ _ 0 0 1 (.int .i64 n) [.int .i64 n] _ rfl rfl rfl (by rw [List.length_cons]; omega),
    show splice (Value.int .i64 0 :: zB) 0 [.int .i64 n] = .int .i64 n :: zB from rfl,
    fill_cons _ _ 1 1 256 (.agg (cB b).toArray) (cB b) _ rfl rfl (by rw [hcb, hb]) (by rw [List.length_cons]; omega),
    show splice (Value.int .i64 n :: zB) 1 (cB b) = .int .i64 n :: splice zB 0 (cB b) by simp only [splice]; rw [Nat.add_comm 1]; simp, splice_whole _ _ (by rw [hcb, hb, hz])]
  rfl

theorem slice_write (W : World) (cs : List Value) (hc : cs.length = 257) : (Instr.buildSlice 49 1 #[(0, .agg cs.toArray)]).run Tryz.prog W = .ok (.slice (some ⟨W.heap.size, 0, none⟩) 1 1) (W.alloc (.cells cs.toArray 95)) := by
  have hz := zB_length
  obtain ⟨i, h2, h3, h4, h5⟩ := info_parts infoW
  refine run_buildSlice W 49 95 1 _ cs.toArray i (.agg (Value.int .i64 0 :: zB).toArray) Tryz.underlying49 h2 h3 (by rw [h4]; decide) (by rw [h4]; decide) ?_
  rw [h4]
  generalize hA : Array.map _ _ = A
  have hs : A.toList.length = 257 := by rw [← hA]; simp
  obtain ⟨L, rfl⟩ : ∃ L : List Value, A = L.toArray := ⟨A.toList, by simp⟩
  clear hA
  rw [show (#[((0 : Nat), Value.agg cs.toArray)] : Array (Nat × Value)).toList = [(0, .agg cs.toArray)] from rfl, fill_cons _ _ 0 0 257 (.agg cs.toArray) cs _ rfl rfl hc (by simpa using Nat.le_of_eq hs.symm),
    splice_whole _ _ (by rw [hc]; exact hs.symm)]
  rfl

section
variable {w : World} {B bp bf bv : Nat} {u : Value} {F V : List (List Int)} {U : List (Nat × List Int)} {fu dn : Bool} {le : Int}
/-- A visible block turned. -/
theorem DskAt.setV (h : DskAt w B bp bf bv u F V U fu le dn) {W : World} (hw : Below w.heap.size w W) (n : Nat) (hn : n < V.length) (b : List Int) (hb : Blk b) :
    DskAt (W.setCells bv (n * 256) (cB b)) B bp bf bv u F (V.set n b) U fu le dn ∧ Wrote W (W.setCells bv (n * 256) (cB b)) bv := by
  have h' := h.below hw
  have hl := cB_length b
  have hfl := flat_length (flatB_len h.okV)
  have e := setCells_row (vs := cB b) h'.hv (o := n * 256) (by rw [hl, hb.1, hfl]; omega) (cB_one b)
  rw [flat_set (flatB_len h.okV) n hn b (by rw [hl, hb.1])] at e
  rw [e]
  have hwr := Wrote.setRow W bv ((V.set n b).flatMap cB).toArray
  have key : ∀ {g : Nat} {o : Obj}, g ≠ bv → W.heap[g]? = some o → (W.setRow bv ((V.set n b).flatMap cB).toArray).heap[g]? = some o := fun hg hh => by
    rw [hwr.2.2.2.2 _ hg]; exact hh
  refine ⟨⟨h.bB, h.ne, by rw [List.length_set]; exact key h.ne.2.1 h'.hp, key h.ne.2.2 h'.hf, setRow_heap _ _ _ _ _ _ h'.hv, ⟨h.hu.1, ?_⟩, h.une, h.okF, ?_, fun x hx => by rw [List.length_set]; exact h.okU x hx, by rw [List.length_set]; exact h.len, by rw [List.length_set]; exact h.max⟩, hwr⟩
  · rcases h'.hu.2 with h0 | ⟨g, cap, cur, hv, hg, hh, r⟩
    · exact .inl h0
    · exact .inr ⟨g, cap, cur, hv, hg, key (fun e => h.une.2.2 (by rw [hv, ← e]; rfl)) hh, r⟩
  · intro x hx
    rcases List.mem_or_eq_of_mem_set hx with hx | rfl
    · exact h.okV x hx
    · exact hb
end
end Go.Proofs.YtigbhdgcjklhoaaGreat
