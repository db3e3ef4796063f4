/- What the laws of layer 11 need of a store: its plain state, and the contracts of its calls, as one bundle (to be paid by the landed code). -/
import Derived.Maps.Own
import Derived.Maps.OwnSet
import Derived.Maps.Views
import Derived.Lib.SlKeysI
import Derived.Lib.SlMapMerge
import Derived.Shelf.SlIterI.Nil
import Derived.Shelf.SlMaps.Copy
import Derived.Shelf.SortM.Plain
import Derived.Shelf.SortM.SortNone
import Derived.Shelf.SlGeneric
import Derived.Test.YtigbhdgcjklhoaaGreatRows
import Derived.Maps.RangeWalk
import Derived.Test.YtigbhdgcjklhoaaGreatC12
import Derived.Test.YtigbhdgcjklhoaaGreatC8
namespace Go.Proofs.YtigbhdgcjklhoaaGreat
set_option maxRecDepth 100000
open Go.RowKit
set_option linter.unusedVariables false

/-- A store's plain state: durable blocks; blocks by all calls; by the present one; what it has put; is it there; how many are not durable; the disk. -/
structure XSt where
  base : List (List Int)
  is : List (List Int)
  call : List (List Int)
  put : List Int
  wi : Bool
  dt : Nat
  ds : DS
structure XOk (X : XSt) : Prop where
  lst : Lst X.is.length X.ds X.base
  pow : X.ds.dn = false
  un : X.ds.U.length ≤ 1000
  call : X.wi = true → X.call.length = X.is.length
  dt : X.dt ≤ 37
/-- A crash finds one of these. -/
def DeadOk (n : Nat) (ds : DS) (l : List (List (List Int))) : Prop := ds.U.length ≤ 1000 ∧ ds.F.length = n ∧ ∀ kp, ∃ G ∈ l, Jst n (ds.crash kp).F G
def xBegin (X : XSt) : Int × XSt := if X.wi = true then (17, X) else (0, { X with call := X.is, put := [], wi := true })
def xPut (X : XSt) (n : Int) (l : List Int) : Int × XSt :=
  if X.wi = false then (17, X) else if n < 0 ∨ (X.is.length : Int) ≤ n ∨ l.length ≠ 256 then (1, X) else if n ∉ X.put ∧ 37 ≤ X.put.length then (13, X) else (0, { X with call := X.call.set n.toNat l, put := addS X.put n })
/-- What a call that says r and leaves X' hands back. -/
def XOut (Inv : World → (Nat → Prop) → Value → Value → XSt → Prop) (w : World) (P : Nat → Prop) (d p : Value) (r : Int × XSt) (e : Ending) (w' : World) : Prop :=
  e = .returned (.int .i64 r.1) ∧ ∃ P', Inv w' P' d p r.2 ∧ Chg P P' w w'
/-- .. one that met ErrIO: it is over; a crash finds one of l. -/
def XDead (Dead : World → (Nat → Prop) → Value → Value → DS → Prop) (w : World) (P : Nat → Prop) (d p : Value) (X : XSt) (l : List (List (List Int))) (e : Ending) (w' : World) : Prop :=
  X.ds.fu = true ∧ e = .returned (.int .i64 2) ∧ ∃ P' ds', Dead w' P' d p ds' ∧ Chg P P' w w' ∧ DeadOk X.is.length ds' l
/-- The bundle. P: all blocks that the store, and its disk, read or turn. -/
structure Sto (Inv : World → (Nat → Prop) → Value → Value → XSt → Prop) (Dead : World → (Nat → Prop) → Value → Value → DS → Prop) : Prop where
  plain : ∀ {w P d p X}, Inv w P d p X → XOk X
  ptr : ∀ {w P d p X}, Inv w P d p X → ∃ b, p = .pointer (some ⟨b, 0, none⟩)
  lt : ∀ {w P d p X}, Inv w P d p X → ∀ k, P k → k < w.heap.size
  keep : ∀ {w w' P d p X}, Inv w P d p X → w.heap.size ≤ w'.heap.size → (∀ k, P k → w'.heap[k]? = w.heap[k]?) → Inv w' P d p X
  disk : ∀ {w P d p X}, Inv w P d p X → ∃ Pd, (∀ k, Pd k → P k) ∧ Dk w Pd d X.ds
  deadLt : ∀ {w P d p ds}, Dead w P d p ds → ∀ k, P k → k < w.heap.size
  deadKeep : ∀ {w w' P d p ds}, Dead w P d p ds → w.heap.size ≤ w'.heap.size → (∀ k, P k → w'.heap[k]? = w.heap[k]?) → Dead w' P d p ds
  deadDisk : ∀ {w P d p ds}, Dead w P d p ds → ∃ Pd, (∀ k, Pd k → P k) ∧ Dk w Pd d ds
  begin : ∀ {w P d p X}, Inv w P d p X → Calls Tryz.prog 15 #[p] w (XOut Inv w P d p (xBegin X))
  put : ∀ {w P d p X n v l}, Inv w P d p X → BSl w v l → -9223372036854775808 ≤ n ∧ n ≤ 9223372036854775807 → OutJ n.toNat → Calls Tryz.prog 19 #[p, .int .i64 n, v] w (XOut Inv w P d p (xPut X n l))
  getOut : ∀ {w P d p X n}, Inv w P d p X → -9223372036854775808 ≤ n ∧ n ≤ 9223372036854775807 → n < 0 ∨ (X.is.length : Int) ≤ n → Calls Tryz.prog 26 #[p, .int .i64 n] w fun e w' => e = .returned (.tuple #[.slice none 0 0, .int .i64 1]) ∧ ∃ P', Inv w' P' d p X ∧ Chg P P' w w'
  getIn : ∀ {w P d p X} {n : Nat}, Inv w P d p X → n < X.is.length → Calls Tryz.prog 26 #[p, .int .i64 n] w fun e w' => ∃ v l, e = .returned (.tuple #[v, .int .i64 0]) ∧ BSl w' v l ∧ (OutJ n → l = (if X.wi = true then X.call else X.is).getD n []) ∧ ∃ P', Inv w' P' d p X ∧ Chg P P' w w'
  endNo : ∀ {w P d p X k}, Inv w P d p X → X.wi = false → Calls Tryz.prog 22 #[p, .bool k] w (XOut Inv w P d p (17, X))
  endUndo : ∀ {w P d p X}, Inv w P d p X → X.wi = true → Calls Tryz.prog 22 #[p, .bool false] w (XOut Inv w P d p (0, { X with wi := false }))
  endKeep : ∀ {w P d p X}, Inv w P d p X → X.wi = true → Calls Tryz.prog 22 #[p, .bool true] w fun e w' =>
    (∃ B dt ds', (B = X.base ∨ B = X.is ∨ B = X.call) ∧ ds'.fu = X.ds.fu ∧ XOut Inv w P d p (0, { X with base := B, is := X.call, wi := false, dt := dt, ds := ds' }) e w') ∨ XDead Dead w P d p X [X.base, X.is, X.call] e w'
  syncNo : ∀ {w P d p X}, Inv w P d p X → X.wi = true → Calls Tryz.prog 24 #[p] w (XOut Inv w P d p (17, X))
  sync : ∀ {w P d p X}, Inv w P d p X → X.wi = false → Calls Tryz.prog 24 #[p] w fun e w' =>
    (∃ ds', ds'.fu = X.ds.fu ∧ XOut Inv w P d p (0, { X with base := X.is, dt := 0, ds := ds' }) e w') ∨ XDead Dead w P d p X [X.base, X.is] e w'
  within : ∀ {w P d p X}, Inv w P d p X → Calls Tryz.prog 16 #[p] w fun e w' => e = .returned (.bool X.wi) ∧ w = w'
  over : ∀ {w P d p X}, Inv w P d p X → Calls Tryz.prog 12 #[p] w fun e w' => e = .returned (.bool false) ∧ w = w'
  overDead : ∀ {w P d p ds}, Dead w P d p ds → Calls Tryz.prog 12 #[p] w fun e w' => e = .returned (.bool true) ∧ w = w'
  opens : ∀ {w P d ds n G}, Dk w P d ds → 64 ≤ n → n ≤ 768 → ds.U = [] → ds.dn = false → Jst n ds.F G → Calls Tryz.prog 6 #[d] w fun e w' =>
    (∃ p ds' P', e = .returned (.tuple #[p, .int .i64 0]) ∧ ds'.fu = ds.fu ∧ Inv w' P' d p ⟨G, G, [], [], false, 0, ds'⟩ ∧ Chg P P' w w') ∨
      (ds.fu = true ∧ e = .returned (.tuple #[.pointer none, .int .i64 2]) ∧ ∃ ds' P', Dk w' P' d ds' ∧ Chg P P' w w' ∧ DeadOk n ds' [G])
/-- The store and the reference side by side: the same but for the journal. -/
structure Rel (X : XSt) (r : RSt) : Prop where
  wi : r.wi = X.wi
  is : eqO r.is X.is
  call : X.wi = true → eqO r.call X.call ∧ r.put = X.put
  base : ∃ G ∈ r.sts, eqO G X.base
  last : ∃ G ∈ r.sts, eqO G r.is
  pl : r.put.length ≤ 37
  lens : (∀ G ∈ r.sts, G.length = r.is.length) ∧ (X.wi = true → r.call.length = r.is.length)
theorem Rel.len {X : XSt} {r : RSt} (h : Rel X r) : r.is.length = X.is.length := h.is.1
theorem Rel.begin {X : XSt} {r : RSt} (h : Rel X r) : (xBegin X).1 = (rBegin r).1 ∧ Rel (xBegin X).2 (rBegin r).2 := by
  unfold xBegin rBegin
  rw [h.wi]
  cases hw : X.wi
  · exact ⟨rfl, ⟨rfl, h.is, fun _ => ⟨h.is, rfl⟩, h.base, h.last, Nat.zero_le _, h.lens.1, fun _ => rfl⟩⟩
  · exact ⟨rfl, h⟩
theorem eqO.set {A B : List (List Int)} (h : eqO A B) (i : Nat) (l : List Int) : eqO (A.set i l) (B.set i l) := by
  refine ⟨by rw [List.length_set, List.length_set]; exact h.1, fun j ho hj => ?_⟩
  rw [List.length_set] at hj
  by_cases e : i = j
  · subst e
    rw [List.getD_eq_getElem?_getD, List.getD_eq_getElem?_getD, List.getElem?_set_self (by rw [h.1]; exact hj), List.getElem?_set_self hj]
  · rw [List.getD_eq_getElem?_getD, List.getD_eq_getElem?_getD, List.getElem?_set_ne e, List.getElem?_set_ne e, ← List.getD_eq_getElem?_getD, ← List.getD_eq_getElem?_getD]
    exact h.2 j ho hj
theorem Rel.put {X : XSt} {r : RSt} (h : Rel X r) (n : Int) (l : List Int) : (xPut X n l).1 = (rPut r n l).1 ∧ Rel (xPut X n l).2 (rPut r n l).2 := by
  unfold xPut rPut
  rw [h.wi, h.len]
  cases hw : X.wi
  · exact ⟨rfl, h⟩
  · obtain ⟨hc, hp⟩ := h.call hw
    have ht : ¬ (true = false) := by decide
    rw [hp, if_neg ht, if_neg ht]
    by_cases ha : n < 0 ∨ (X.is.length : Int) ≤ n ∨ l.length ≠ 256
    · rw [if_pos ha, if_pos ha]; exact ⟨rfl, h⟩
    · rw [if_neg ha, if_neg ha]
      by_cases hf : n ∉ X.put ∧ 37 ≤ X.put.length
      · rw [if_pos hf, if_pos hf]; exact ⟨rfl, h⟩
      · rw [if_neg hf, if_neg hf]
        refine ⟨rfl, ⟨rfl, h.is, fun _ => ⟨hc.set _ _, rfl⟩, h.base, h.last, ?_, h.lens.1, fun _ => (List.length_set ..).trans (h.lens.2 hw)⟩⟩
        show (addS X.put n).length ≤ 37
        have hp37 := h.pl
        rw [hp] at hp37
        unfold addS
        by_cases hi : n ∈ X.put
        · rw [if_pos hi]; exact hp37
        · rw [if_neg hi, List.length_append]
          have : ¬ 37 ≤ X.put.length := fun h37 => hf ⟨hi, h37⟩
          simp only [List.length_singleton]; omega
/-- End that keeps: what was durable is what it was, or what it was ahead of the call, or what it is now. -/
theorem Rel.ended {X : XSt} {r : RSt} (h : Rel X r) (hw : X.wi = true) {B : List (List Int)} (hB : B = X.base ∨ B = X.is ∨ B = X.call) (dt : Nat) (ds' : DS) :
    (rEnd r true).1 = 0 ∧ Rel { X with base := B, is := X.call, wi := false, dt := dt, ds := ds' } (rEnd r true).2 := by
  have hr : r.wi = true := h.wi.trans hw
  have e1 : rEnd r true = (0, { r with is := r.call, sts := r.sts ++ [r.call], wi := false }) := by unfold rEnd; rw [hr]; rfl
  rw [e1]
  obtain ⟨hc, _⟩ := h.call hw
  refine ⟨rfl, ⟨rfl, hc, fun e => (by cases e), ?_, ⟨r.call, List.mem_append_right _ (List.mem_singleton.2 rfl), eqO.refl _⟩, h.pl, fun G hG => ?_, fun e => (by cases e)⟩⟩
  · rcases hB with rfl | rfl | rfl
    · obtain ⟨G, hG, e⟩ := h.base
      exact ⟨G, List.mem_append_left _ hG, e⟩
    · obtain ⟨G, hG, e⟩ := h.last
      exact ⟨G, List.mem_append_left _ hG, e.trans h.is⟩
    · exact ⟨r.call, List.mem_append_right _ (List.mem_singleton.2 rfl), hc⟩
  · rcases List.mem_append.1 hG with hG | hG
    · exact (h.lens.1 G hG).trans (h.lens.2 hw).symm
    · rw [List.mem_singleton.1 hG]
theorem Rel.undone {X : XSt} {r : RSt} (h : Rel X r) (hw : X.wi = true) : (rEnd r false).1 = 0 ∧ Rel { X with wi := false } (rEnd r false).2 := by
  have hr : r.wi = true := h.wi.trans hw
  have e1 : rEnd r false = (0, { r with wi := false }) := by unfold rEnd; rw [hr]; rfl
  rw [e1]
  exact ⟨rfl, ⟨rfl, h.is, fun e => (by cases e), h.base, h.last, h.pl, h.lens.1, fun e => (by cases e)⟩⟩
theorem Rel.synced {X : XSt} {r : RSt} (h : Rel X r) (hw : X.wi = false) (ds' : DS) : (rSync r).1 = 0 ∧ Rel { X with base := X.is, dt := 0, ds := ds' } (rSync r).2 := by
  have hr : r.wi = false := h.wi.trans hw
  have e1 : rSync r = (0, { r with sts := [r.is], wi := false }) := by unfold rSync; rw [hr]; rfl
  rw [e1]
  exact ⟨rfl, ⟨hw.symm, h.is, fun e => (by rw [show X.wi = true from e] at hw; cases hw), ⟨r.is, List.mem_singleton.2 rfl, h.is⟩, ⟨r.is, List.mem_singleton.2 rfl, eqO.refl _⟩, h.pl, fun G hG => by rw [List.mem_singleton.1 hG], fun e => (by rw [show X.wi = true from e] at hw; cases hw)⟩⟩
/-- Opened anew, or new. -/
theorem Rel.opened {G B : List (List Int)} {ds : DS} (h : eqO B G) : Rel ⟨G, G, [], [], false, 0, ds⟩ ⟨B, [], [], [B], false⟩ :=
  ⟨rfl, h, fun e => (by cases e), ⟨B, List.mem_singleton.2 rfl, h⟩, ⟨B, List.mem_singleton.2 rfl, eqO.refl _⟩, Nat.zero_le _, fun G hG => by rw [List.mem_singleton.1 hG], fun e => (by cases e)⟩
end Go.Proofs.YtigbhdgcjklhoaaGreat

/- Maps of []byte by numbers (the store's changes), in plain words: which numbers they have, and what slice at each; look-up, length, store, make. -/
namespace Go.Proofs.YtigbhdgcjklhoaaGreat
set_option maxRecDepth 100000
open Go.RowKit Go.Maps
set_option linter.unusedVariables false

/-- A slice's header as a datum. -/
def hdr (v : Value) : Option (DataW Unit × List MemPlace) :=
  match v with
  | .slice none 0 0 => some (.nil, [])
  | .slice (some ⟨b, off, none⟩) n c => some (.agg [.lit (.int .u64 b), .lit (.int .u64 off), .lit (.int .u64 n), .lit (.int .u64 c)], [])
  | _ => none
theorem hdr_nil : hdr (.slice none 0 0) = some (.nil, []) := rfl
theorem hdr_some (b off n c : Nat) : hdr (.slice (some ⟨b, off, none⟩) n c) = some (.agg [.lit (.int .u64 b), .lit (.int .u64 off), .lit (.int .u64 n), .lit (.int .u64 c)], []) := rfl
theorem hdr_cases {v : Value} {y : DataW Unit × List MemPlace} (h : hdr v = some y) : (v = .slice none 0 0 ∧ y = (.nil, [])) ∨ ∃ b off n c, v = .slice (some ⟨b, off, none⟩) n c ∧ y = (.agg [.lit (.int .u64 b), .lit (.int .u64 off), .lit (.int .u64 n), .lit (.int .u64 c)], []) := by
  unfold hdr at h
  split at h
  · exact .inl ⟨rfl, (Option.some.inj h).symm⟩
  · exact .inr ⟨_, _, _, _, rfl, (Option.some.inj h).symm⟩
  · cases h
theorem hdr_inj {v v' : Value} {d : DataW Unit} {ps ps' : List MemPlace} (h : hdr v = some (d, ps)) (h' : hdr v' = some (d, ps')) : v = v' := by
  rcases hdr_cases h with ⟨rfl, e⟩ | ⟨b, off, n, c, rfl, e⟩ <;> rcases hdr_cases h' with ⟨rfl, e'⟩ | ⟨b', off', n', c', rfl, e'⟩
  · rfl
  · have e1 := (Prod.mk.inj e).1.symm.trans (Prod.mk.inj e').1; cases e1
  · have e1 := (Prod.mk.inj e).1.symm.trans (Prod.mk.inj e').1; cases e1
  · have e1 := (Prod.mk.inj e).1.symm.trans (Prod.mk.inj e').1
    simp only [DataW.agg.injEq, List.cons.injEq, DataW.lit.injEq, Lit.int.injEq, true_and, and_true, Int.natCast_inj] at e1
    obtain ⟨rfl, rfl, rfl, rfl⟩ := e1
    rfl

/-- Block b is a map[int][]byte: its numbers are N's, the slice at number x is g x. -/
def Mp (w : World) (b : Nat) (N : List Int) (g : Int → Value) : Prop :=
  ∃ D : DataW Unit, w.ownsMap Tryz.prog 3 hdr b N.length D ∧ N.Nodup ∧ (∀ x ∈ N, (Lit.int .i64 x).wf = true) ∧ (∀ x, Maps.has D (.int .i64 x) = decide (x ∈ N)) ∧ ∀ x ∈ N, ∃ d, hdr (g x) = some (d, []) ∧ ∀ z, D.atKey (.int .i64 x) z = d
theorem infoBys : (Tryz.prog.info? 59).map (fun i => (i.zero, i.size, i.bytes)) = some (some (.slice none 0 0), 1, 24) := by kernel_rfl
theorem zeroBys (w : World) : (zeroValue 59).run Tryz.prog w = .ok (.slice none 0 0) w := by
  obtain ⟨t, h2, h3, _⟩ := info_parts infoBys
  simp [zeroValue, typeInfo, h2, h3, Result.andThen]
theorem owns_tight {w : World} {b n : Nat} {D : DataW Unit} (h : w.ownsMap Tryz.prog 3 hdr b n D) : w.ownsMap Tryz.prog 3 hdr b (Maps.size D) D := by
  obtain ⟨es, clock, hb, F, hs, rfl⟩ := h
  exact ⟨es, clock, hb, F, Nat.le_of_eq (by unfold Maps.size; exact (length_read es).symm), rfl⟩
theorem owns_size {w : World} {b n : Nat} {D : DataW Unit} (h : w.ownsMap Tryz.prog 3 hdr b n D) {N : List Int} (hN : N.Nodup) (hh : ∀ x, Maps.has D (.int .i64 x) = decide (x ∈ N)) : N.Perm (intKeys D) ∧ Maps.size D = N.length := by
  obtain ⟨es, rfl, hp, _⟩ := h.entries iKeyed
  have hk : ∀ p ∈ es, ∃ x, p.1 = .int .i64 x := fun p hp' => by
    obtain ⟨es', e1, _, k⟩ := h.canonK iKeyed
    cases e1
    obtain ⟨v, hv⟩ := k p hp'
    obtain ⟨x, _, e, _⟩ := Maps.keyOf_i64 Tryz.underlying3 hv
    exact ⟨x, e⟩
  have hperm := perm_intKeys hp hk hN (fun x => by rw [hh x, decide_eq_true_eq])
  refine ⟨hperm, ?_⟩
  have := hperm.length_eq
  rw [this]
  show es.length = (es.map fun p => _root_.Go.intOf p.1).length
  rw [List.length_map]
theorem owns_mp {w : World} {b n : Nat} {D : DataW Unit} (h : w.ownsMap Tryz.prog 3 hdr b n D) {N : List Int} {g : Int → Value} (hN : N.Nodup) (hw : ∀ x ∈ N, (Lit.int .i64 x).wf = true) (hh : ∀ x, Maps.has D (.int .i64 x) = decide (x ∈ N)) (hg : ∀ x ∈ N, ∃ d, hdr (g x) = some (d, []) ∧ ∀ z, D.atKey (.int .i64 x) z = d) : Mp w b N g := by
  obtain ⟨_, e⟩ := owns_size h hN hh
  have h' := owns_tight h
  rw [e] at h'
  exact ⟨D, h', hN, hw, hh, hg⟩
section
variable {w : World} {b : Nat} {N : List Int} {g : Int → Value}
theorem Mp.lt (h : Mp w b N g) : b < w.heap.size := by
  obtain ⟨D, h, _⟩ := h
  exact h.lt
theorem Mp.keep {w' : World} (h : Mp w b N g) (hk : w'.heap[b]? = w.heap[b]?) : Mp w' b N g := by
  obtain ⟨D, ⟨es, clock, hb, r⟩, r'⟩ := h
  exact ⟨D, ⟨es, clock, hk.trans hb, r⟩, r'⟩
theorem Mp.not_cells (h : Mp w b N g) {k : Nat} {cs : Array Value} {T : TypeId} {z : Nat × Nat} (hk : w.heap[k]? = some (.cells cs T z)) : b ≠ k := fun e => by
  obtain ⟨D, ⟨es, clock, hb, _⟩, _⟩ := h
  rw [e, hk] at hb; cases hb
theorem Mp.nodup (h : Mp w b N g) : N.Nodup := by obtain ⟨_, _, h, _⟩ := h; exact h
theorem Mp.wf (h : Mp w b N g) : ∀ x ∈ N, (Lit.int .i64 x).wf = true := by obtain ⟨_, _, _, h, _⟩ := h; exact h
theorem Mp.made (w : World) (g : Int → Value) : Mp (w.alloc (.map #[] 0)) w.heap.size [] g :=
  ⟨.map [], World.ownsMap_made w _ _ _, List.nodup_nil, fun x hx => absurd hx List.not_mem_nil, fun x => rfl, fun x hx => absurd hx List.not_mem_nil⟩
theorem Mp.congr (h : Mp w b N g) {g' : Int → Value} (he : ∀ x ∈ N, g' x = g x) : Mp w b N g' := by
  obtain ⟨D, h1, h2, h3, h4, h5⟩ := h
  exact ⟨D, h1, h2, h3, h4, fun x hx => by rw [he x hx]; exact h5 x hx⟩
theorem Mp.len (h : Mp w b N g) (ty : TypeId) : (Builtin.len_ #[56] ty #[.map (some b)]).run Tryz.prog w = .ok (.int .i64 N.length) w := by
  obtain ⟨D, h1, h2, h3, h4, h5⟩ := h
  rw [h1.len Tryz.underlying56 ty, (owns_size h1 h2 h4).2]
/-- v, ok := m[x]. -/
theorem Mp.look_ok (h : Mp w b N g) {x : Int} (hx : (Lit.int .i64 x).wf = true) : (Instr.lookup 56 (.map (some b)) (.int .i64 x) true).run Tryz.prog w = .ok (.tuple #[if x ∈ N then g x else .slice none 0 0, .bool (decide (x ∈ N))]) w := by
  obtain ⟨D, ⟨es, clock, hb, F, hs, rfl⟩, h2, h3, h4, h5⟩ := h
  rcases Maps.fit_look true iKeyed Tryz.underlying56 (zeroBys w) hb F (ikey hx) with ⟨hrun, hno, hat⟩ | ⟨e0, y, he0, hk, hrun, hRv, hat, _⟩
  · have hn : x ∉ N := fun hin => by
      obtain ⟨d, hd, ha⟩ := h5 x hin
      have e1 := (hat .nil).symm.trans (ha .nil)
      have e2 := (hat (.lit (.bool true))).symm.trans (ha (.lit (.bool true)))
      rw [← e1] at e2; cases e2
    rw [if_neg hn, decide_eq_false hn]
    exact hrun
  · have hn : x ∈ N := by
      have := h4 x
      rw [Maps.has_true_of_atKey hat] at this
      exact of_decide_eq_true this.symm
    rw [if_pos hn, decide_eq_true hn]
    obtain ⟨d, hd, ha⟩ := h5 x hn
    have e1 : y.1 = d := (hat .nil).symm.trans (ha .nil)
    have : e0.val = g x := hdr_inj (ps := y.2) (by rw [hRv, ← e1]) hd
    rw [← this]
    exact hrun
theorem Mp.look (h : Mp w b N g) {x : Int} (hx : x ∈ N) : (Instr.lookup 56 (.map (some b)) (.int .i64 x) false).run Tryz.prog w = .ok (g x) w := by
  have hw := h.wf x hx
  obtain ⟨D, h1, h2, h3, h4, h5⟩ := h
  obtain ⟨v, ps, hrun, hv⟩ := h1.lookup iKeyed Tryz.underlying56 (zeroBys w) hdr_nil (ikey hw)
  obtain ⟨d, hd, ha⟩ := h5 x hx
  rw [ha] at hv
  rw [hdr_inj hd hv]
  exact hrun
/-- m[x] = v. -/
theorem Mp.store (h : Mp w b N g) {x : Int} (hx : (Lit.int .i64 x).wf = true) {v : Value} {d : DataW Unit} (hv : hdr v = some (d, [])) (hN : N.length < 1000000) :
    ∃ w', (Instr.mapUpdate 56 (.map (some b)) (.int .i64 x) v).run Tryz.prog w = .ok () w' ∧ Mp w' b (addS N x) (fun y => if y = x then v else g y) ∧ w.grownBy w' (some b) ∧ w'.heap.size = w.heap.size := by
  obtain ⟨D, h1, h2, h3, h4, h5⟩ := h
  have hlt : N.length < maxLen := by simp only [maxLen]; omega
  have hm := h1.isMap
  have hkl : WideAt.IsKeyLit (.int .i64 x) := iKeyed.key (ikey hx)
  obtain ⟨w', hrun, h6, hg, ht⟩ : ∃ w', (Instr.mapUpdate 56 (.map (some b)) (.int .i64 x) v).run Tryz.prog w = .ok () w' ∧ w'.ownsMap Tryz.prog 3 hdr b (N.length + 1) (D.put (.int .i64 x) d) ∧ w.grownBy w' (some b) ∧ w'.heap.size = w.heap.size := by
    obtain ⟨w', hrun, h6, h7⟩ := h1.store iKeyed Tryz.underlying56 hlt (ikey hx) hv
    exact ⟨w', hrun, h6, h7.grown, by obtain ⟨_, _, _, _, _, rfl⟩ := h7; simp [ChangeMaps.setBlock]⟩
  refine ⟨w', hrun, owns_mp h6 ?_ ?_ ?_ ?_, hg, ht⟩
  · unfold addS
    split
    · exact h2
    · rename_i hn
      exact List.nodup_append.2 ⟨h2, by simp, fun a ha c hc e => hn (by simp at hc; rw [← hc, ← e]; exact ha)⟩
  · intro y hy
    unfold addS at hy
    split at hy
    · exact h3 y hy
    · rcases List.mem_append.1 hy with hy | hy
      · exact h3 y hy
      · simp at hy; subst hy; exact hx
  · intro y
    have hmem : y ∈ addS N x ↔ y ∈ N ∨ y = x := by
      unfold addS
      split
      · exact ⟨.inl, fun h => h.elim id fun e => by rw [e]; assumption⟩
      · simp
    by_cases e : y = x
    · subst e
      rw [Maps.has_put_same hm hkl, decide_eq_true (hmem.2 (.inr rfl))]
    · rw [Maps.has_put_other (fun e' => e (by cases e'; rfl)), h4 y]
      exact decide_eq_decide.2 ⟨fun h => hmem.2 (.inl h), fun h => (hmem.1 h).resolve_right e⟩
  · intro y hy
    by_cases e : y = x
    · subst e
      exact ⟨d, by rw [if_pos rfl]; exact hv, fun z => Maps.atKey_put_same hm hkl d z⟩
    · have hy' : y ∈ N := by
        unfold addS at hy
        split at hy
        · exact hy
        · exact (List.mem_append.1 hy).resolve_right fun h => e (by simpa using h)
      obtain ⟨d', hd', ha'⟩ := h5 y hy'
      exact ⟨d', by rw [if_neg e]; exact hd', fun z => by rw [Maps.atKey_put_other (fun e' => e (by cases e'; rfl))]; exact ha' z⟩
end
end Go.Proofs.YtigbhdgcjklhoaaGreat

/- Contracts of generic functions of Go's library at this program: which number of theirs is which of ours (in plain words what the kit's command for it lays). -/
namespace Go.Proofs.YtigbhdgcjklhoaaGreat
open Go.RowKit Go.Shelf

def copyM_ren : Go.Shelf.Ren := ⟨fun | 5 => 57 | n => n, fun | 23 => 56 | 24 => 56 | 26 => 3 | 27 => 59 | 0 => 0 | 4 => 4 | n => n, fun | n => n⟩
theorem copyM : Go.Proofs.SlLaysX.n5 Tryz.prog copyM_ren := {
  mixed := by kernel_rfl,
  f5 := ⟨Tryz.f57.name, by decide, Tryz.func57.trans (congrArg some (by kernel_rfl))⟩,
  t0 := Tryz.underlying0,
  a0 := Tryz.isAgg0,
  z0 := Tryz.sizeOf0,
  v0 := Tryz.zeroValue0,
  t4 := Tryz.underlying4,
  a4 := Tryz.isAgg4,
  z4 := Tryz.sizeOf4,
  v4 := Tryz.zeroValue4,
  t23 := Tryz.underlying56,
  a23 := Tryz.isAgg56,
  z23 := Tryz.sizeOf56,
  v23 := Tryz.zeroValue56,
  t24 := Tryz.underlying56,
  a24 := Tryz.isAgg56,
  z24 := Tryz.sizeOf56,
  v24 := Tryz.zeroValue56,
  a26 := Tryz.isAgg3,
  z26 := Tryz.sizeOf3,
  a27 := Tryz.isAgg59,
  z27 := Tryz.sizeOf59 }

def keysM_ren : Go.Shelf.Ren := ⟨fun | 7 => 73 | 10 => 83 | n => n, fun | 23 => 56 | 26 => 3 | 3 => 59 | 28 => 111 | 0 => 0 | 27 => 82 | 33 => 77 | 4 => 4 | n => n, fun | n => n⟩
theorem keysM : Go.Proofs.SlLaysZI.n7 Tryz.prog keysM_ren := {
  mixed := by kernel_rfl,
  f7 := ⟨Tryz.f73.name, by decide, Tryz.func73.trans (congrArg some (by kernel_rfl))⟩,
  f10 := ⟨Tryz.f83.name, by decide, Tryz.func83.trans (congrArg some (by kernel_rfl))⟩,
  t0 := Tryz.underlying0,
  a0 := Tryz.isAgg0,
  z0 := Tryz.sizeOf0,
  v0 := Tryz.zeroValue0,
  t4 := Tryz.underlying4,
  a4 := Tryz.isAgg4,
  z4 := Tryz.sizeOf4,
  v4 := Tryz.zeroValue4,
  t23 := Tryz.underlying56,
  a23 := Tryz.isAgg56,
  z23 := Tryz.sizeOf56,
  v23 := Tryz.zeroValue56,
  t26 := Tryz.underlying3,
  a26 := Tryz.isAgg3,
  z26 := Tryz.sizeOf3,
  v26 := Tryz.zeroValue3,
  t27 := Tryz.underlying82,
  a27 := Tryz.isAgg82,
  z27 := Tryz.sizeOf82,
  v27 := Tryz.zeroValue82,
  t28 := Tryz.underlying111,
  a28 := Tryz.isAgg111,
  z28 := Tryz.sizeOf111,
  v28 := Tryz.zeroValue111,
  t33 := Tryz.underlying77,
  a33 := Tryz.isAgg77,
  z33 := Tryz.sizeOf77,
  v33 := Tryz.zeroValue77 }

def sortedM_ren : Go.Shelf.Ren := ⟨fun | 6 => 72 | 8 => 81 | 9 => 82 | 11 => 85 | 13 => 87 | 12 => 86 | 23 => 98 | 24 => 99 | 14 => 89 | 15 => 90 | 16 => 91 | 17 => 92 | 18 => 93 | 19 => 94 | 20 => 95 | 21 => 96 | 22 => 97 | 25 => 100 | 26 => 101 | 27 => 102 | 28 => 103 | 29 => 104 | 30 => 105 | 31 => 106 | n => n, fun | 26 => 3 | 28 => 111 | 24 => 69 | 0 => 0 | 3 => 3 | 37 => 122 | 48 => 52 | 50 => 104 | 4 => 4 | 40 => 131 | 39 => 130 | 45 => 136 | 5 => 5 | 9 => 9 | 51 => 140 | 55 => 144 | 57 => 146 | 58 => 147 | 33 => 77 | n => n, fun | n => n⟩
theorem sortedM : Go.Proofs.SlLaysZI.n6 Tryz.prog sortedM_ren := {
  mixed := by kernel_rfl,
  f6 := ⟨Tryz.f72.name, by decide, Tryz.func72.trans (congrArg some (by kernel_rfl))⟩,
  f8 := ⟨Tryz.f81.name, by decide, Tryz.func81.trans (congrArg some (by kernel_rfl))⟩,
  f11 := ⟨Tryz.f85.name, by decide, Tryz.func85.trans (congrArg some (by kernel_rfl))⟩,
  t0 := Tryz.underlying0,
  a0 := Tryz.isAgg0,
  z0 := Tryz.sizeOf0,
  v0 := Tryz.zeroValue0,
  t24 := Tryz.underlying69,
  a24 := Tryz.isAgg69,
  z24 := Tryz.sizeOf69,
  v24 := Tryz.zeroValue69,
  t26 := Tryz.underlying3,
  a26 := Tryz.isAgg3,
  z26 := Tryz.sizeOf3,
  v26 := Tryz.zeroValue3,
  t28 := Tryz.underlying111,
  a28 := Tryz.isAgg111,
  z28 := Tryz.sizeOf111,
  v28 := Tryz.zeroValue111,
  i26 := by kernel_rfl }

def sortM_ren : Go.Shelf.Ren := ⟨fun | 5 => 82 | 8 => 87 | 7 => 86 | 19 => 98 | 20 => 99 | 10 => 89 | 11 => 90 | 12 => 91 | 13 => 92 | 14 => 93 | 15 => 94 | 16 => 95 | 17 => 96 | 18 => 97 | 30 => 100 | 31 => 101 | 32 => 102 | 33 => 103 | 34 => 104 | 35 => 105 | 40 => 106 | n => n, fun | 23 => 69 | 25 => 3 | 3 => 3 | 32 => 122 | 22 => 69 | 0 => 0 | 44 => 52 | 46 => 104 | 4 => 4 | 36 => 131 | 35 => 130 | 41 => 136 | 5 => 5 | 9 => 9 | 53 => 140 | 57 => 144 | 63 => 146 | 64 => 147 | n => n, fun | n => n⟩
theorem sortM : Go.Proofs.SlLaysM.n5 Tryz.prog sortM_ren := {
  mixed := by kernel_rfl,
  f5 := ⟨Tryz.f82.name, by decide, Tryz.func82.trans (congrArg some (by kernel_rfl))⟩,
  f7 := ⟨Tryz.f86.name, by decide, Tryz.func86.trans (congrArg some (by kernel_rfl))⟩,
  f8 := Tryz.func87.trans (congrArg some (by kernel_rfl)),
  f10 := ⟨Tryz.f89.name, by decide, Tryz.func89.trans (congrArg some (by kernel_rfl))⟩,
  f11 := ⟨Tryz.f90.name, by decide, Tryz.func90.trans (congrArg some (by kernel_rfl))⟩,
  f12 := ⟨Tryz.f91.name, by decide, Tryz.func91.trans (congrArg some (by kernel_rfl))⟩,
  f13 := ⟨Tryz.f92.name, by decide, Tryz.func92.trans (congrArg some (by kernel_rfl))⟩,
  f14 := ⟨Tryz.f93.name, by decide, Tryz.func93.trans (congrArg some (by kernel_rfl))⟩,
  f15 := ⟨Tryz.f94.name, by decide, Tryz.func94.trans (congrArg some (by kernel_rfl))⟩,
  f16 := ⟨Tryz.f95.name, by decide, Tryz.func95.trans (congrArg some (by kernel_rfl))⟩,
  f17 := ⟨Tryz.f96.name, by decide, Tryz.func96.trans (congrArg some (by kernel_rfl))⟩,
  f18 := ⟨Tryz.f97.name, by decide, Tryz.func97.trans (congrArg some (by kernel_rfl))⟩,
  f19 := Tryz.func98.trans (congrArg some (by kernel_rfl)),
  f20 := Tryz.func99.trans (congrArg some (by kernel_rfl)),
  f30 := ⟨Tryz.f100.name, by decide, Tryz.func100.trans (congrArg some (by kernel_rfl))⟩,
  f31 := Tryz.func101.trans (congrArg some (by kernel_rfl)),
  f32 := Tryz.func102.trans (congrArg some (by kernel_rfl)),
  f33 := ⟨Tryz.f103.name, by decide, Tryz.func103.trans (congrArg some (by kernel_rfl))⟩,
  f34 := ⟨Tryz.f104.name, by decide, Tryz.func104.trans (congrArg some (by kernel_rfl))⟩,
  f35 := ⟨Tryz.f105.name, by decide, Tryz.func105.trans (congrArg some (by kernel_rfl))⟩,
  f40 := ⟨Tryz.f106.name, by decide, Tryz.func106.trans (congrArg some (by kernel_rfl))⟩,
  t0 := Tryz.underlying0,
  a0 := Tryz.isAgg0,
  z0 := Tryz.sizeOf0,
  v0 := Tryz.zeroValue0,
  t3 := Tryz.underlying3,
  a3 := Tryz.isAgg3,
  z3 := Tryz.sizeOf3,
  v3 := Tryz.zeroValue3,
  t4 := Tryz.underlying4,
  a4 := Tryz.isAgg4,
  z4 := Tryz.sizeOf4,
  v4 := Tryz.zeroValue4,
  t5 := Tryz.underlying5,
  a5 := Tryz.isAgg5,
  z5 := Tryz.sizeOf5,
  v5 := Tryz.zeroValue5,
  t9 := Tryz.underlying9,
  a9 := Tryz.isAgg9,
  z9 := Tryz.sizeOf9,
  v9 := Tryz.zeroValue9,
  t22 := Tryz.underlying69,
  a22 := Tryz.isAgg69,
  z22 := Tryz.sizeOf69,
  v22 := Tryz.zeroValue69,
  t23 := Tryz.underlying69,
  a23 := Tryz.isAgg69,
  z23 := Tryz.sizeOf69,
  v23 := Tryz.zeroValue69,
  t25 := Tryz.underlying3,
  a25 := Tryz.isAgg3,
  z25 := Tryz.sizeOf3,
  v25 := Tryz.zeroValue3,
  t32 := Tryz.underlying122,
  a32 := Tryz.isAgg122,
  z32 := Tryz.sizeOf122,
  v32 := Tryz.zeroValue122,
  t35 := Tryz.underlying130,
  a35 := Tryz.isAgg130,
  z35 := Tryz.sizeOf130,
  v35 := Tryz.zeroValue130,
  t36 := Tryz.underlying131,
  a36 := Tryz.isAgg131,
  z36 := Tryz.sizeOf131,
  v36 := Tryz.zeroValue131,
  t41 := Tryz.underlying136,
  a41 := Tryz.isAgg136,
  z41 := Tryz.sizeOf136,
  v41 := Tryz.zeroValue136,
  t44 := Tryz.underlying52,
  a44 := Tryz.isAgg52,
  z44 := Tryz.sizeOf52,
  v44 := Tryz.zeroValue52,
  t46 := Tryz.underlying104,
  a46 := Tryz.isAgg104,
  z46 := Tryz.sizeOf104,
  v46 := Tryz.zeroValue104,
  t53 := Tryz.underlying140,
  a53 := Tryz.isAgg140,
  z53 := Tryz.sizeOf140,
  v53 := Tryz.zeroValue140,
  t57 := Tryz.underlying144,
  a57 := Tryz.isAgg144,
  z57 := Tryz.sizeOf144,
  v57 := Tryz.zeroValue144,
  t63 := Tryz.underlying146,
  a63 := Tryz.isAgg146,
  z63 := Tryz.sizeOf146,
  v63 := Tryz.zeroValue146,
  t64 := Tryz.underlying147,
  a64 := Tryz.isAgg147,
  z64 := Tryz.sizeOf147,
  v64 := Tryz.zeroValue147 }

end Go.Proofs.YtigbhdgcjklhoaaGreat

/- Contracts of maps.Copy, maps.Keys and slices.Sorted for the store's changes, in plain words. -/
namespace Go.Proofs.YtigbhdgcjklhoaaGreat
set_option maxRecDepth 100000
open Go.RowKit Go.Maps Go.Shelf
set_option linter.unusedVariables false

/-- The numbers of both. -/
def uniN (N M : List Int) : List Int := N ++ M.filter fun x => decide (x ∉ N)
theorem mem_uniN {N M : List Int} {x : Int} : x ∈ uniN N M ↔ x ∈ N ∨ x ∈ M := by
  unfold uniN
  rw [List.mem_append, List.mem_filter, decide_eq_true_eq]
  by_cases h : x ∈ N
  · simp [h]
  · simp [h]
theorem uniN_nodup {N M : List Int} (h : N.Nodup) (k : M.Nodup) : (uniN N M).Nodup := by
  refine List.nodup_append.2 ⟨h, k.filter _, fun a ha c hc e => ?_⟩
  have := (List.mem_filter.1 hc).2
  rw [decide_eq_true_eq] at this
  exact this (e ▸ ha)
def sortN (N : List Int) : List Int := N.mergeSort leI
theorem sortN_perm (N : List Int) : (sortN N).Perm N := List.mergeSort_perm N leI
theorem sortN_length (N : List Int) : (sortN N).length = N.length := (sortN_perm N).length_eq
theorem mem_sortN {N : List Int} {x : Int} : x ∈ sortN N ↔ x ∈ N := (sortN_perm N).mem_iff
theorem sortN_nodup {N : List Int} (h : N.Nodup) : (sortN N).Nodup := (sortN_perm N).nodup_iff.2 h
/-- maps.Copy. -/
theorem mCopy_of {w : World} {bd bs : Nat} {N M : List Int} {g h : Int → Value} (hd : Mp w bd N g) (hs : Mp w bs M h) (hne : bd ≠ bs) (hroom : N.length + M.length ≤ 1000000) :
    Calls Tryz.prog 57 #[.map (some bd), .map (some bs)] w fun e w' => e = .returned (.tuple #[]) ∧ Mp w' bd (uniN N M) (fun x => if x ∈ M then h x else g x) ∧ Mp w' bs M h ∧ w.grownBy w' (some bd) := by
  obtain ⟨Dd, d1, d2, d3, d4, d5⟩ := hd
  obtain ⟨Ds, s1, s2, s3, s4, s5⟩ := hs
  have hsz := (owns_size s1 s2 s4).2
  have hcon := AnyX.maps_Copy copyM iKeyed hdr bd bs N.length M.length Dd Ds w d1 s1 hne (by rw [hsz]; simp only [maxLen]; omega)
  change Calls Tryz.prog 57 _ _ _ at hcon
  refine hcon.mono ?_
  rintro e w' ⟨he, h1, h2, h3⟩
  refine ⟨he, ?_, ⟨Ds, h2, s2, s3, s4, s5⟩, h3⟩
  obtain ⟨es, rfl, hp, hk⟩ := s1.entries iKeyed
  have hm := d1.isMap
  have hhas : ∀ k, Maps.has (Lib.mergeD Dd (.map es)) k = (Maps.has Dd k || Maps.has (.map es) k) := fun k => Maps.has_foldPut k es Dd hm hk
  refine owns_mp h1 (uniN_nodup d2 s2) ?_ ?_ ?_
  · intro x hx
    exact (mem_uniN.1 hx).elim (d3 x) (s3 x)
  · intro x
    rw [hhas, d4 x, s4 x]
    by_cases ha : x ∈ N
    · rw [decide_eq_true ha, decide_eq_true (mem_uniN.2 (.inl ha))]; rfl
    · by_cases hb : x ∈ M
      · rw [decide_eq_true hb, decide_eq_true (mem_uniN.2 (.inr hb)), Bool.or_true]
      · rw [decide_eq_false ha, decide_eq_false hb, decide_eq_false (fun e => (mem_uniN.1 e).elim ha hb)]; rfl
  · intro x hx
    by_cases hb : x ∈ M
    · obtain ⟨d, hd, ha⟩ := s5 x hb
      refine ⟨d, by rw [if_pos hb]; exact hd, fun z => ?_⟩
      have hat := Maps.atKey_foldPut (.int .i64 x) z es Dd hm hk hp
      have h0 : (DataW.map es).atKey (.int .i64 x) z = d := ha z
      show (es.foldl (fun D p => D.put p.1 p.2) Dd).atKey (.int .i64 x) z = d
      cases hf : es.find? (fun p => p.1.sameKey (.int .i64 x)) with
      | none =>
        have hh := s4 x
        rw [decide_eq_true hb, Maps.has_eq, List.any_eq_true] at hh
        obtain ⟨p, hp1, hp2⟩ := hh
        have := List.find?_eq_none.1 hf p hp1
        rw [hp2] at this; exact absurd rfl this
      | some p =>
        rw [hf] at hat
        simp only [DataW.atKey, hf] at h0
        rw [hat]
        exact h0
    · have ha := (mem_uniN.1 hx).resolve_right hb
      obtain ⟨d, hd, hz⟩ := d5 x ha
      refine ⟨d, by rw [if_neg hb]; exact hd, fun z => ?_⟩
      have hat := Maps.atKey_foldPut (.int .i64 x) z es Dd hm hk hp
      show (es.foldl (fun D p => D.put p.1 p.2) Dd).atKey (.int .i64 x) z = d
      have hf : es.find? (fun p => p.1.sameKey (.int .i64 x)) = none := List.find?_eq_none.2 fun p hp1 hp2 => by
        have hh := s4 x
        rw [decide_eq_false hb, Maps.has_eq] at hh
        have := List.any_eq_false.1 hh p hp1
        exact this hp2
      rw [hf] at hat
      rw [hat]
      exact hz z
/-- maps.Keys. -/
theorem mKeys_of (b : Nat) (w : World) : Calls Tryz.prog 73 #[.map (some b)] w fun e w' => e = .returned (.func (.func 83) #[] #[.pointer (some ⟨w.heap.size, 0, none⟩)]) ∧ w' = w.alloc (.cells #[.map (some b)] 56) := by
  have h := (callsIn_wide (n := 5)).1 (AnyZI.keys_in keysM Fence.wide 5 trivial rfl (some b) w)
  exact h
theorem sortsM (m : Nat) : AnyZI.SortsIn Tryz.prog sortedM_ren Fence.wide m :=
  ⟨fun blk off cap ss W hH hblk hsz => callsIn_wide.2 (AnyM.slices_Sort_int sortM blk off cap ss W hH hblk hsz),
   fun p cap W => callsIn_wide.2 (AnyM.slices_Sort_int_none sortM p cap W)⟩
/-- slices.Sorted of them. -/
theorem slSorted_of {w : World} {b p : Nat} {N : List Int} {g : Int → Value} (h : Mp w b N g) (hp : w.heap[p]? = some (.cells #[.map (some b)] 56 (0, 0))) (hN : N.length ≤ 1000000) :
    Calls Tryz.prog 72 #[.func (.func 83) #[] #[.pointer (some ⟨p, 0, none⟩)]] w fun e w' => ∃ v, e = .returned v ∧ IR w' w.heap.size v (sortN N) ∧ Below w.heap.size w w' := by
  obtain ⟨D, d1, d2, d3, d4, d5⟩ := h
  obtain ⟨hperm, hsz⟩ := owns_size d1 d2 d4
  have hpl : p < w.heap.size := (Array.getElem?_eq_some_iff.1 hp).1
  have hc : w.cell? ⟨p, 0, none⟩ = some (.map (some b)) := by rw [cell_of_row _ _ _ _ _ _ hp]; rfl
  have hseq : SeqGives Fence.wide 2 Tryz.prog 83 #[.pointer (some ⟨p, 0, none⟩)] encZ (fun ss => ss.Perm (intKeys D)) (Maps.size D) w :=
    AnyZI.keys_gives (ρ := keysM_ren) { keysM with } Fence.wide _ trivial rfl (by omega) p b N.length D w hpl hc d1
  have cS := AnyZI.sorted_in sortedM Fence.wide 5 trivial trivial trivial trivial rfl (by omega) (sortsM _) (enters_of Tryz.func82 (by kernel_rfl) rfl) 83 #[.pointer (some ⟨p, 0, none⟩)] trivial (enters_of Tryz.func83 (by kernel_rfl) rfl) _ _ (by rw [hsz]; simp only [maxLen]; omega) (by rw [hsz]; omega) w hseq
  change CallsIn _ _ Tryz.prog 72 _ _ _ at cS
  refine (callsIn_wide.1 cS).mono ?_
  rintro e w' ⟨v, ss, he, hS, hrow, hnil, hb⟩
  have e1 : ss.mergeSort (fun x y => decide (x ≤ y)) = sortN N := mergeSort_of_perm_i (hS.trans hperm.symm)
  have e2 : ss.length = (sortN N).length := by rw [sortN_length, hS.length_eq, hperm.length_eq]
  rw [e1, e2] at hrow
  refine ⟨v, he, ?_, hb⟩
  exact hrow
end Go.Proofs.YtigbhdgcjklhoaaGreat

/- The landed store in memory: its struct, its maps, the slices in them, its disk; what keeps it; contracts of its small calls. -/
namespace Go.Proofs.YtigbhdgcjklhoaaGreat
set_option maxRecDepth 100000
open Go.RowKit
set_option linter.unusedVariables false

/-- Nothing but P's blocks has turned. -/
structure Ext (P : Nat → Prop) (w w' : World) : Prop where
  os : w'.os = w.os
  tape : w'.tape = w.tape
  output : w'.output = w.output
  size : w.heap.size ≤ w'.heap.size
  keep : ∀ k, k < w.heap.size → ¬ P k → w'.heap[k]? = w.heap[k]?
/-- P, and what is new. -/
def grP (P : Nat → Prop) (w w' : World) (k : Nat) : Prop := P k ∨ (w.heap.size ≤ k ∧ k < w'.heap.size)
theorem Ext.refl (P : Nat → Prop) (w : World) : Ext P w w := ⟨rfl, rfl, rfl, Nat.le_refl _, fun _ _ _ => rfl⟩
theorem Ext.trans {P P2 : Nat → Prop} {a b c : World} (h : Ext P a b) (k : Ext P2 b c) (hp : ∀ x, x < a.heap.size → P2 x → P x) : Ext P a c :=
  ⟨k.os.trans h.os, k.tape.trans h.tape, k.output.trans h.output, Nat.le_trans h.size k.size, fun i hi hn => (k.keep i (Nat.lt_of_lt_of_le hi h.size) fun e => hn (hp i hi e)).trans (h.keep i hi hn)⟩
theorem Ext.of_below {P : Nat → Prop} {w w' : World} (h : Below w.heap.size w w') : Ext P w w' := ⟨h.os, h.tape, h.output, h.size, fun k hk _ => h.block k hk⟩
theorem Ext.of_chg {P Q Q' : Nat → Prop} {w w' : World} (h : Chg Q Q' w w') (hp : ∀ x, Q x → P x) : Ext P w w' := ⟨h.os, h.tape, h.output, h.size, fun k hk hn => (h.keep k hk fun e => hn (hp k e)).1⟩
theorem Ext.of_grown {P : Nat → Prop} {w w' : World} {b : Nat} (h : w.grownBy w' (some b)) (hp : P b) : Ext P w w' := ⟨h.os, h.tape, h.output, h.size, fun k hk hn => h.block k hk fun e => hn (by cases e; exact hp)⟩
theorem Ext.of_wrote {P : Nat → Prop} {w w' : World} {b : Nat} (h : Wrote w w' b) (hp : P b) : Ext P w w' := ⟨h.1, h.2.1, h.2.2.1, Nat.le_of_eq h.2.2.2.1.symm, fun k _ hn => h.2.2.2.2 k fun e => hn (e ▸ hp)⟩
theorem Ext.chg {P : Nat → Prop} {w w' : World} (h : Ext P w w') : Chg P (grP P w w') w w' := ⟨h.os, h.tape, h.output, h.size, fun k hk hn => ⟨h.keep k hk hn, fun e => e.elim hn fun e => absurd e.1 (by omega)⟩⟩
theorem Ext.sub {P Q : Nat → Prop} {w w' : World} (h : Ext P w w') (hp : ∀ x, P x → Q x) : Ext Q w w' := ⟨h.os, h.tape, h.output, h.size, fun k hk hn => h.keep k hk fun e => hn (hp k e)⟩
theorem chg_new {P P' : Nat → Prop} {w w' : World} (h : Chg P P' w w') {k : Nat} (hk : P' k) : P k ∨ w.heap.size ≤ k := by
  by_cases hl : k < w.heap.size
  · by_cases hp : P k
    · exact .inl hp
    · exact absurd hk (h.keep k hl hp).2
  · exact .inr (by omega)

/-- A disk stays while its blocks do. -/
theorem Dk.same {w w' : World} {P : Nat → Prop} {p : Value} {s : DS} (h : Dk w P p s) (hk : ∀ k, P k → w'.heap[k]? = w.heap[k]?) : Dk w' P p s := by
  obtain ⟨bp, bf, bv, u, hp, hd, hl, hP⟩ := h
  refine ⟨bp, bf, bv, u, hp, { hd with hp := ?_, hf := ?_, hv := ?_, hu := ownsRow_keep hd.hu fun g hg => hk g ((hP g).2 (.inr (.inr (.inr hg)))) }, hl, hP⟩
  · rw [hk _ ((hP _).2 (.inl rfl))]; exact hd.hp
  · rw [hk _ ((hP _).2 (.inr (.inl rfl)))]; exact hd.hf
  · rw [hk _ ((hP _).2 (.inr (.inr (.inl rfl))))]; exact hd.hv
/-- A block's slice, in a row of its own. -/
def Blo (w : World) (v : Value) (l : List Int) : Prop := OB w 0 v l ∧ l.length = 256
theorem Blo.row {w : World} {v : Value} {l : List Int} (h : Blo w v l) : ∃ g cap cur, v = .slice (some ⟨g, 0, none⟩) 256 cap ∧ w.heap[g]? = some (.cells cur 5 (0, 0)) := by
  rcases h.1.2.2 with ⟨_, h0⟩ | ⟨g, cap, cur, hv, _, hh, _⟩
  · rw [h.2] at h0; cases h0
  · exact ⟨g, cap, cur, by rw [hv, h.2], hh⟩
theorem Blo.hdr {w : World} {v : Value} {l : List Int} (h : Blo w v l) : ∃ d, hdr v = some (d, []) := by
  obtain ⟨g, cap, cur, rfl, _⟩ := h.row
  exact ⟨_, hdr_some g 0 256 cap⟩
theorem Blo.keep {w w' : World} {v : Value} {l : List Int} (h : Blo w v l) (hk : ∀ g, v.ownBlock = some g → w'.heap[g]? = w.heap[g]?) : Blo w' v l := ⟨⟨h.1.1, ownsRow_keep h.1.2 hk⟩, h.2⟩
theorem Blo.lt {w : World} {v : Value} {l : List Int} (h : Blo w v l) {g : Nat} (hg : v.ownBlock = some g) : g < w.heap.size := (World.ownsRow.lt h.1.2 g hg).2
theorem Blo.at {w : World} {v : Value} {l : List Int} (h : Blo w v l) {g : Nat} (hg : v.ownBlock = some g) : ∃ cur, w.heap[g]? = some (.cells cur 5 (0, 0)) := by
  obtain ⟨g', cap, cur, rfl, hh⟩ := h.row
  obtain rfl : g' = g := by simpa [Value.ownBlock] using hg
  exact ⟨cur, hh⟩

/-- The blocks of a store. -/
def SOwn (Pd : Nat → Prop) (b be bp : Nat) (ek : List Int) (eg : Int → Value) (pk : List Int) (pg : Int → Value) (k : Nat) : Prop :=
  Pd k ∨ k = b ∨ k = be ∨ k = bp ∨ (∃ x, x ∈ ek ∧ (eg x).ownBlock = some k) ∨ ∃ x, x ∈ pk ∧ (pg x).ownBlock = some k
/-- In memory. -/
structure SMem (w : World) (Pd : Nat → Prop) (b be bp : Nat) (d : Value) (q : Int) (ek : List Int) (eg : Int → Value) (ev : Int → List Int) (pk : List Int) (pg : Int → Value) (pv : Int → List Int) (wi : Bool) (ds : DS) : Prop where
  hb : w.heap[b]? = some (.cells #[d, .int .u32 q, .map (some be), .map (some bp), .bool wi, .bool false] 58 (0, 0))
  dk : Dk w Pd d ds
  q0 : 0 ≤ q ∧ q < 4294967296
  me : Mp w be ek eg
  mp : Mp w bp pk pg
  ne : be ≠ bp
  re : ∀ x ∈ ek, Blo w (eg x) (ev x)
  rp : ∀ x ∈ pk, Blo w (pg x) (pv x)
/-- What number is one of a block outside the journal. -/
def inK (n : Nat) (x : Int) : Prop := 0 ≤ x ∧ x < n ∧ OutJ x.toNat
/-- What it means. -/
structure SPl (X : XSt) (ek : List Int) (ev : Int → List Int) (pk : List Int) (pv : Int → List Int) : Prop where
  ok : XOk X
  n64 : 64 ≤ X.is.length ∧ X.is.length ≤ 768
  u0 : X.ds.U = []
  ki : ∀ x ∈ ek, inK X.is.length x
  kp : ∀ x ∈ pk, inK X.is.length x
  el : ek.length ≤ 37
  pl : pk.length ≤ 37
  dt : X.dt = ek.length
  isx : ∀ i, OutJ i → i < X.is.length → X.is.getD i [] = if (i : Int) ∈ ek then ev i else X.base.getD i []
  wi0 : X.wi = false → pk = []
  wi1 : X.wi = true → X.put = pk ∧ X.call.length = X.is.length ∧ ∀ i, OutJ i → i < X.is.length → X.call.getD i [] = if (i : Int) ∈ pk then pv i else X.is.getD i []
/-- The landed store, P bounding its blocks. -/
def SInv (w : World) (P : Nat → Prop) (d p : Value) (X : XSt) : Prop :=
  ∃ b be bp Pd q ek eg ev pk pg pv, p = .pointer (some ⟨b, 0, none⟩) ∧ SMem w Pd b be bp d q ek eg ev pk pg pv X.wi X.ds ∧ SPl X ek ev pk pv ∧ (∀ k, SOwn Pd b be bp ek eg pk pg k → P k) ∧ ∀ k, P k → k < w.heap.size
/-- One that is over. -/
def SDead (w : World) (P : Nat → Prop) (d p : Value) (ds : DS) : Prop :=
  ∃ b Pd, p = .pointer (some ⟨b, 0, none⟩) ∧ w.heap[b]? = some (.cells #[.pointer none, .int .u32 0, .map none, .map none, .bool false, .bool true] 58 (0, 0)) ∧ Dk w Pd d ds ∧ (∀ k, Pd k ∨ k = b → P k) ∧ ∀ k, P k → k < w.heap.size
section
variable {w : World} {Pd : Nat → Prop} {b be bp : Nat} {d : Value} {q : Int} {ek : List Int} {eg : Int → Value} {ev : Int → List Int} {pk : List Int} {pg : Int → Value} {pv : Int → List Int} {wi : Bool} {ds : DS}
theorem SMem.bl (h : SMem w Pd b be bp d q ek eg ev pk pg pv wi ds) : b < w.heap.size := (Array.getElem?_eq_some_iff.1 h.hb).1
theorem SMem.lt (h : SMem w Pd b be bp d q ek eg ev pk pg pv wi ds) (k : Nat) (hk : SOwn Pd b be bp ek eg pk pg k) : k < w.heap.size := by
  rcases hk with hk | rfl | rfl | rfl | ⟨x, hx, hg⟩ | ⟨x, hx, hg⟩
  · exact h.dk.lt k hk
  · exact h.bl
  · exact h.me.lt
  · exact h.mp.lt
  · exact (h.re x hx).lt hg
  · exact (h.rp x hx).lt hg
theorem SMem.same (h : SMem w Pd b be bp d q ek eg ev pk pg pv wi ds) {w' : World} (hk : ∀ k, SOwn Pd b be bp ek eg pk pg k → w'.heap[k]? = w.heap[k]?) : SMem w' Pd b be bp d q ek eg ev pk pg pv wi ds :=
  ⟨by rw [hk b (.inr (.inl rfl))]; exact h.hb, h.dk.same fun k hp => hk k (.inl hp), h.q0, h.me.keep (hk be (.inr (.inr (.inl rfl)))), h.mp.keep (hk bp (.inr (.inr (.inr (.inl rfl))))), h.ne,
    fun x hx => (h.re x hx).keep fun g hg => hk g (.inr (.inr (.inr (.inr (.inl ⟨x, hx, hg⟩))))), fun x hx => (h.rp x hx).keep fun g hg => hk g (.inr (.inr (.inr (.inr (.inr ⟨x, hx, hg⟩)))))⟩
theorem SMem.below (h : SMem w Pd b be bp d q ek eg ev pk pg pv wi ds) {w' : World} (hb : Below w.heap.size w w') : SMem w' Pd b be bp d q ek eg ev pk pg pv wi ds := h.same fun k hk => hb.block k (h.lt k hk)
theorem SMem.ci (h : SMem w Pd b be bp d q ek eg ev pk pg pv wi ds) (i : Nat) : w.cell? ⟨b, i, none⟩ = (#[d, .int .u32 q, .map (some be), .map (some bp), .bool wi, .bool false] : Array Value)[i]? := cell_of_row _ _ _ _ _ _ h.hb
theorem SMem.fr (h : SMem w Pd b be bp d q ek eg ev pk pg pv wi ds) (i : Nat) : w.frozen? ⟨b, i, none⟩ = false := by simp [World.frozen?, h.hb]
theorem SMem.c0 (h : SMem w Pd b be bp d q ek eg ev pk pg pv wi ds) : w.cell? ⟨b, 0, none⟩ = some d := h.ci 0
theorem SMem.c1 (h : SMem w Pd b be bp d q ek eg ev pk pg pv wi ds) : w.cell? ⟨b, 1, none⟩ = some (.int .u32 q) := h.ci 1
theorem SMem.c2 (h : SMem w Pd b be bp d q ek eg ev pk pg pv wi ds) : w.cell? ⟨b, 2, none⟩ = some (.map (some be)) := h.ci 2
theorem SMem.c3 (h : SMem w Pd b be bp d q ek eg ev pk pg pv wi ds) : w.cell? ⟨b, 3, none⟩ = some (.map (some bp)) := h.ci 3
theorem SMem.c4 (h : SMem w Pd b be bp d q ek eg ev pk pg pv wi ds) : w.cell? ⟨b, 4, none⟩ = some (.bool wi) := h.ci 4
theorem SMem.c5 (h : SMem w Pd b be bp d q ek eg ev pk pg pv wi ds) : w.cell? ⟨b, 5, none⟩ = some (.bool false) := h.ci 5
/-- Its struct is apart from its disk, and from its slices. -/
theorem SMem.nd (h : SMem w Pd b be bp d q ek eg ev pk pg pv wi ds) : ¬ Pd b := h.dk.not h.hb (by decide) (by decide) (by decide)
theorem dk_not_map {P : Nat → Prop} {p : Value} {s : DS} (h : Dk w P p s) {k : Nat} {es : Array MapEntry} {cl : Nat} (hk : w.heap[k]? = some (.map es cl)) : ¬ P k := fun hp => by
  obtain ⟨_, _, he, _⟩ := h.types k hp
  rw [hk] at he; cases he
theorem Mp.nd {P : Nat → Prop} {p : Value} {s : DS} {m : Nat} {N : List Int} {g : Int → Value} (h : Dk w P p s) (hm : Mp w m N g) : ¬ P m := by
  obtain ⟨_, ⟨es, cl, hh, _⟩, _⟩ := hm
  exact dk_not_map h hh
theorem SMem.nb (h : SMem w Pd b be bp d q ek eg ev pk pg pv wi ds) : be ≠ b ∧ bp ≠ b := ⟨h.me.not_cells h.hb, h.mp.not_cells h.hb⟩
theorem Blo.ne {v : Value} {l : List Int} (hv : Blo w v l) {g : Nat} (hg : v.ownBlock = some g) {k : Nat} {cs : Array Value} {T : TypeId} {z : Nat × Nat} (hk : w.heap[k]? = some (.cells cs T z)) (hT : T ≠ 5) : g ≠ k := fun e => by
  obtain ⟨cur, hh⟩ := hv.at hg
  rw [e, hk] at hh
  injection hh with hh
  injection hh with _ e2
  exact hT e2
theorem Blo.nm {v : Value} {l : List Int} (hv : Blo w v l) {g : Nat} (hg : v.ownBlock = some g) {m : Nat} {N : List Int} {gg : Int → Value} (hm : Mp w m N gg) : g ≠ m := fun e => by
  obtain ⟨cur, hh⟩ := hv.at hg
  exact hm.not_cells hh e.symm
theorem Blo.nd {v : Value} {l : List Int} (hv : Blo w v l) {g : Nat} (hg : v.ownBlock = some g) {P : Nat → Prop} {p : Value} {s : DS} (h : Dk w P p s) : ¬ P g := by
  obtain ⟨cur, hh⟩ := hv.at hg
  exact h.not hh (by decide) (by decide) (by decide)
/-- Behind a change of the disk's. -/
theorem SMem.disk (h : SMem w Pd b be bp d q ek eg ev pk pg pv wi ds) {w' : World} {Pd' : Nat → Prop} {ds' : DS} (hd : Dk w' Pd' d ds') (hc : Chg Pd Pd' w w') : SMem w' Pd' b be bp d q ek eg ev pk pg pv wi ds' :=
  ⟨by rw [(hc.keep b h.bl h.nd).1]; exact h.hb, hd, h.q0, h.me.keep (hc.keep be h.me.lt (Mp.nd h.dk h.me)).1, h.mp.keep (hc.keep bp h.mp.lt (Mp.nd h.dk h.mp)).1, h.ne,
    fun x hx => (h.re x hx).keep fun g hg => (hc.keep g ((h.re x hx).lt hg) ((h.re x hx).nd hg h.dk)).1, fun x hx => (h.rp x hx).keep fun g hg => (hc.keep g ((h.rp x hx).lt hg) ((h.rp x hx).nd hg h.dk)).1⟩
end
theorem SInv.keep {w w' : World} {P : Nat → Prop} {d p : Value} {X : XSt} (h : SInv w P d p X) (hs : w.heap.size ≤ w'.heap.size) (hk : ∀ k, P k → w'.heap[k]? = w.heap[k]?) : SInv w' P d p X := by
  obtain ⟨b, be, bp, Pd, q, ek, eg, ev, pk, pg, pv, hp, hm, hpl, ho, hl⟩ := h
  exact ⟨b, be, bp, Pd, q, ek, eg, ev, pk, pg, pv, hp, hm.same fun k h => hk k (ho k h), hpl, ho, fun k h => Nat.lt_of_lt_of_le (hl k h) hs⟩
theorem SDead.keep {w w' : World} {P : Nat → Prop} {d p : Value} {ds : DS} (h : SDead w P d p ds) (hs : w.heap.size ≤ w'.heap.size) (hk : ∀ k, P k → w'.heap[k]? = w.heap[k]?) : SDead w' P d p ds := by
  obtain ⟨b, Pd, hp, hb, hd, ho, hl⟩ := h
  exact ⟨b, Pd, hp, by rw [hk b (ho b (.inr rfl))]; exact hb, hd.same fun k h => hk k (ho k (.inl h)), ho, fun k h => Nat.lt_of_lt_of_le (hl k h) hs⟩
end Go.Proofs.YtigbhdgcjklhoaaGreat

/- The landed store: contracts of usable, allows, has, loggable, changed, met, together; Begin, Dirty, Within, Over. -/
namespace Go.Proofs.YtigbhdgcjklhoaaGreat
set_option maxRecDepth 100000
open Go.RowKit
set_option linter.unusedVariables false

theorem sLoggable_is (w : World) (n : Int) : Calls Tryz.prog 37 #[.int .i64 n] w fun e w' => e = .returned (.bool (decide (n < 768))) ∧ w = w' := by
  go_enter Tryz.func37, Tryz.ntmps37
  go_wp2
  go_ret
  trivial
theorem sUsable_dead {w : World} {P : Nat → Prop} {d p : Value} {ds : DS} (h : SDead w P d p ds) : Calls Tryz.prog 41 #[p] w fun e w' => e = .returned (.int .i64 2) ∧ w = w' := by
  obtain ⟨b, Pd, rfl, hb, _⟩ := h
  have c5 : w.cell? ⟨b, 5, none⟩ = some (.bool true) := by rw [cell_of_row _ _ _ _ _ _ hb]; rfl
  clear hb
  go_enter Tryz.func41, Tryz.ntmps41
  go_wp2
  go_ret
  exact ⟨rfl, rfl⟩
theorem sOver_dead {w : World} {P : Nat → Prop} {d p : Value} {ds : DS} (h : SDead w P d p ds) : Calls Tryz.prog 12 #[p] w fun e w' => e = .returned (.bool true) ∧ w = w' := by
  obtain ⟨b, Pd, rfl, hb, _⟩ := h
  have c5 : w.cell? ⟨b, 5, none⟩ = some (.bool true) := by rw [cell_of_row _ _ _ _ _ _ hb]; rfl
  clear hb
  go_enter Tryz.func12, Tryz.ntmps12
  go_wp2
  go_ret
  exact ⟨rfl, rfl⟩
section
variable {w : World} {Pd : Nat → Prop} {b be bp : Nat} {d : Value} {q : Int} {ek : List Int} {eg : Int → Value} {ev : Int → List Int} {pk : List Int} {pg : Int → Value} {pv : Int → List Int} {wi : Bool} {ds : DS}
theorem sUsable_is (h : SMem w Pd b be bp d q ek eg ev pk pg pv wi ds) : Calls Tryz.prog 41 #[.pointer (some ⟨b, 0, none⟩)] w fun e w' => e = .returned (.int .i64 0) ∧ w = w' := by
  have c5 := h.c5
  clear h
  go_enter Tryz.func41, Tryz.ntmps41
  go_wp2
  go_ret
  exact ⟨rfl, rfl⟩
theorem sAllows_is (h : SMem w Pd b be bp d q ek eg ev pk pg pv wi ds) (x : Bool) : Calls Tryz.prog 30 #[.pointer (some ⟨b, 0, none⟩), .bool x] w fun e w' => e = .returned (.int .i64 (if wi = x then 0 else 17)) ∧ w = w' := by
  have KU := Lib.hid (sUsable_is h)
  have c4 := h.c4
  clear h
  go_enter Tryz.func30, Tryz.ntmps30
  go_wp2_with (go_at_call 41; refine KU.out.mono ?_; rintro e w' ⟨rfl, rfl⟩)
  all_goals (cases wi <;> cases x <;> simp_all <;> go_ret <;> exact ⟨rfl, rfl⟩)
theorem sHas_is (h : SMem w Pd b be bp d q ek eg ev pk pg pv wi ds) (n : Int) : Calls Tryz.prog 36 #[.pointer (some ⟨b, 0, none⟩), .int .i64 n] w fun e w' => e = .returned (.bool (decide (0 ≤ n ∧ n < ds.F.length))) ∧ w = w' := by
  have KB := Lib.hid (kBlocks h.dk)
  have c0 := h.c0
  clear h
  by_cases h0 : 0 ≤ n
  · have e1 : decide (0 ≤ n ∧ n < ds.F.length) = decide (n < ds.F.length) := by simp [h0]
    rw [e1]
    go_enter Tryz.func36, Tryz.ntmps36
    go_wp2_with (go_at_call 55; refine KB.out.mono ?_; rintro e w' ⟨rfl, rfl⟩)
    go_ret
    exact ⟨rfl, rfl⟩
  · have e1 : decide (0 ≤ n ∧ n < ds.F.length) = false := by simp [h0]
    rw [e1]
    go_enter Tryz.func36, Tryz.ntmps36
    go_wp2_with (go_at_call 55; refine KB.out.mono ?_; rintro e w' ⟨rfl, rfl⟩)
    go_ret
    exact ⟨rfl, rfl⟩
theorem sWithin_is (h : SMem w Pd b be bp d q ek eg ev pk pg pv wi ds) : Calls Tryz.prog 16 #[.pointer (some ⟨b, 0, none⟩)] w fun e w' => e = .returned (.bool wi) ∧ w = w' := by
  have c4 := h.c4
  clear h
  go_enter Tryz.func16, Tryz.ntmps16
  go_wp2
  go_ret
  exact ⟨rfl, rfl⟩
theorem sOver_is (h : SMem w Pd b be bp d q ek eg ev pk pg pv wi ds) : Calls Tryz.prog 12 #[.pointer (some ⟨b, 0, none⟩)] w fun e w' => e = .returned (.bool false) ∧ w = w' := by
  have c5 := h.c5
  clear h
  go_enter Tryz.func12, Tryz.ntmps12
  go_wp2
  go_ret
  exact ⟨rfl, rfl⟩
theorem sChanged_is (h : SMem w Pd b be bp d q ek eg ev pk pg pv wi ds) {n : Int} (hn : (Lit.int .i64 n).wf = true) : Calls Tryz.prog 42 #[.pointer (some ⟨b, 0, none⟩), .int .i64 n] w fun e w' =>
    e = .returned (.tuple #[if n ∈ pk then pg n else if n ∈ ek then eg n else .slice none 0 0, .bool (decide (n ∈ pk) || decide (n ∈ ek))]) ∧ w = w' := by
  have c2 := h.c2
  have c3 := h.c3
  have le := h.me.look_ok hn
  have lp := h.mp.look_ok hn
  clear h
  obtain ⟨x, hx⟩ : ∃ x, x = (if n ∈ ek then eg n else .slice none 0 0) := ⟨_, rfl⟩
  obtain ⟨y, hy⟩ : ∃ y, y = (if n ∈ pk then pg n else .slice none 0 0) := ⟨_, rfl⟩
  obtain ⟨xb, hxb⟩ : ∃ xb, xb = decide (n ∈ ek) := ⟨_, rfl⟩
  rw [← hx, ← hxb] at le
  rw [← hy] at lp
  by_cases hp : n ∈ pk
  · rw [if_pos hp] at hy ⊢
    rw [decide_eq_true hp] at lp ⊢
    rw [← hy]
    clear hp hx hxb hy le
    go_enter Tryz.func42, Tryz.ntmps42
    go_wp2
    go_ret2
    exact ⟨rfl, rfl⟩
  · rw [if_neg hp]
    rw [decide_eq_false hp] at lp ⊢
    rw [← hx, ← hxb]
    clear hp hx hxb hy
    go_enter Tryz.func42, Tryz.ntmps42
    go_wp2
    go_ret2
    exact ⟨rfl, rfl⟩
end
end Go.Proofs.YtigbhdgcjklhoaaGreat
