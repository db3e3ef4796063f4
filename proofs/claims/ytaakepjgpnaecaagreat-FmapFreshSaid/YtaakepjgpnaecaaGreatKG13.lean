/- What the law rests on: part 13. -/
import Derived.Maps.Own
import Derived.Maps.OwnSet
import Derived.Maps.Views
import Derived.Lib.SlKeysI
import Derived.Lib.SlMapMerge
import Derived.Shelf.SlIterI.Nil
import Derived.Shelf.SlMaps.Copy
import Derived.Shelf.SortM.Plain
import Derived.Shelf.SortM.SortNone
import Derived.Shelf.SlGeneric
import Derived.Maps.RangeWalk
import Derived.Test.YtaakepjgpnaecaaGreatKG12
set_option linter.unusedVariables false
namespace Go.Proofs.YtaakepjgpnaecaaGreat
set_option maxRecDepth 100000
open Go.RowKit Go.Maps
def hdr (v : Value) : Option (DataW Unit × List MemPlace) :=
  match v with
  | .slice none 0 0 => some (.nil, [])
  | .slice (some ⟨b, off, none⟩) n c => some (.agg [.lit (.int .u64 b), .lit (.int .u64 off), .lit (.int .u64 n), .lit (.int .u64 c)], [])
  | _ => none
theorem hdr_nil : hdr (.slice none 0 0) = some (.nil, []) := rfl
theorem hdr_some (b off n c : Nat) : hdr (.slice (some ⟨b, off, none⟩) n c) = some (.agg [.lit (.int .u64 b), .lit (.int .u64 off), .lit (.int .u64 n), .lit (.int .u64 c)], []) := rfl
theorem hdr_cases {v : Value} {y : DataW Unit × List MemPlace} (h : hdr v = some y) : (v = .slice none 0 0 ∧ y = (.nil, [])) ∨ ∃ b off n c, v = .slice (some ⟨b, off, none⟩) n c ∧ y = (.agg [.lit (.int .u64 b), .lit (.int .u64 off), .lit (.int .u64 n), .lit (.int .u64 c)], []) := by
  unfold hdr at h
  split at h
  · exact .inl ⟨rfl, (Option.some.inj h).symm⟩
  · exact .inr ⟨_, _, _, _, rfl, (Option.some.inj h).symm⟩
  · cases h
theorem hdr_inj {v v' : Value} {d : DataW Unit} {ps ps' : List MemPlace} (h : hdr v = some (d, ps)) (h' : hdr v' = some (d, ps')) : v = v' := by
  rcases hdr_cases h with ⟨rfl, e⟩ | ⟨b, off, n, c, rfl, e⟩ <;> rcases hdr_cases h' with ⟨rfl, e'⟩ | ⟨b', off', n', c', rfl, e'⟩
  · rfl
  · have e1 := (Prod.mk.inj e).1.symm.trans (Prod.mk.inj e').1; cases e1
  · have e1 := (Prod.mk.inj e).1.symm.trans (Prod.mk.inj e').1; cases e1
  · have e1 := (Prod.mk.inj e).1.symm.trans (Prod.mk.inj e').1
    simp only [DataW.agg.injEq, List.cons.injEq, DataW.lit.injEq, Lit.int.injEq, true_and, and_true, Int.natCast_inj] at e1
    obtain ⟨rfl, rfl, rfl, rfl⟩ := e1
    rfl
def Mp (w : World) (b : Nat) (N : List Int) (g : Int → Value) : Prop :=
  ∃ D : DataW Unit, w.ownsMap Tryz.prog 3 hdr b N.length D ∧ N.Nodup ∧ (∀ x ∈ N, (Lit.int .i64 x).wf = true) ∧ (∀ x, Maps.has D (.int .i64 x) = decide (x ∈ N)) ∧ ∀ x ∈ N, ∃ d, hdr (g x) = some (d, []) ∧ ∀ z, D.atKey (.int .i64 x) z = d
theorem infoBys : (Tryz.prog.info? 49).map (fun i => (i.zero, i.size, i.bytes)) = some (some (.slice none 0 0), 1, 24) := by kernel_rfl
theorem zeroBys (w : World) : (zeroValue 49).run Tryz.prog w = .ok (.slice none 0 0) w := by
  obtain ⟨t, h2, h3, _⟩ := info_parts infoBys
  simp [zeroValue, typeInfo, h2, h3, Result.andThen]
theorem owns_tight {w : World} {b n : Nat} {D : DataW Unit} (h : w.ownsMap Tryz.prog 3 hdr b n D) : w.ownsMap Tryz.prog 3 hdr b (Maps.size D) D := by
  obtain ⟨es, clock, hb, F, hs, rfl⟩ := h
  exact ⟨es, clock, hb, F, Nat.le_of_eq (by unfold Maps.size; exact (length_read es).symm), rfl⟩
theorem owns_size {w : World} {b n : Nat} {D : DataW Unit} (h : w.ownsMap Tryz.prog 3 hdr b n D) {N : List Int} (hN : N.Nodup) (hh : ∀ x, Maps.has D (.int .i64 x) = decide (x ∈ N)) : N.Perm (intKeys D) ∧ Maps.size D = N.length := by
  obtain ⟨es, rfl, hp, _⟩ := h.entries iKeyed
  have hk : ∀ p ∈ es, ∃ x, p.1 = .int .i64 x := fun p hp' => by
    obtain ⟨es', e1, _, k⟩ := h.canonK iKeyed
    cases e1
    obtain ⟨v, hv⟩ := k p hp'
    obtain ⟨x, _, e, _⟩ := Maps.keyOf_i64 Tryz.underlying3 hv
    exact ⟨x, e⟩
  have hperm := perm_intKeys hp hk hN (fun x => by rw [hh x, decide_eq_true_eq])
  refine ⟨hperm, ?_⟩
  have := hperm.length_eq
  rw [this]
  show es.length = (es.map fun p => _root_.Go.intOf p.1).length
  rw [List.length_map]
theorem owns_mp {w : World} {b n : Nat} {D : DataW Unit} (h : w.ownsMap Tryz.prog 3 hdr b n D) {N : List Int} {g : Int → Value} (hN : N.Nodup) (hw : ∀ x ∈ N, (Lit.int .i64 x).wf = true) (hh : ∀ x, Maps.has D (.int .i64 x) = decide (x ∈ N)) (hg : ∀ x ∈ N, ∃ d, hdr (g x) = some (d, []) ∧ ∀ z, D.atKey (.int .i64 x) z = d) : Mp w b N g := by
  obtain ⟨_, e⟩ := owns_size h hN hh
  have h' := owns_tight h
  rw [e] at h'
  exact ⟨D, h', hN, hw, hh, hg⟩
section
variable {w : World} {b : Nat} {N : List Int} {g : Int → Value}
theorem Mp.lt (h : Mp w b N g) : b < w.heap.size := by
  obtain ⟨D, h, _⟩ := h
  exact h.lt
theorem Mp.keep {w' : World} (h : Mp w b N g) (hk : w'.heap[b]? = w.heap[b]?) : Mp w' b N g := by
  obtain ⟨D, ⟨es, clock, hb, r⟩, r'⟩ := h
  exact ⟨D, ⟨es, clock, hk.trans hb, r⟩, r'⟩
theorem Mp.not_cells (h : Mp w b N g) {k : Nat} {cs : Array Value} {T : TypeId} {z : Nat × Nat} (hk : w.heap[k]? = some (.cells cs T z)) : b ≠ k := fun e => by
  obtain ⟨D, ⟨es, clock, hb, _⟩, _⟩ := h
  rw [e, hk] at hb; cases hb
theorem Mp.nodup (h : Mp w b N g) : N.Nodup := by obtain ⟨_, _, h, _⟩ := h; exact h
theorem Mp.wf (h : Mp w b N g) : ∀ x ∈ N, (Lit.int .i64 x).wf = true := by obtain ⟨_, _, _, h, _⟩ := h; exact h
theorem Mp.made (w : World) (g : Int → Value) : Mp (w.alloc (.map #[] 0)) w.heap.size [] g :=
  ⟨.map [], World.ownsMap_made w _ _ _, List.nodup_nil, fun x hx => absurd hx List.not_mem_nil, fun x => rfl, fun x hx => absurd hx List.not_mem_nil⟩
theorem Mp.len (h : Mp w b N g) (ty : TypeId) : (Builtin.len_ #[84] ty #[.map (some b)]).run Tryz.prog w = .ok (.int .i64 N.length) w := by
  obtain ⟨D, h1, h2, h3, h4, h5⟩ := h
  rw [h1.len Tryz.underlying84 ty, (owns_size h1 h2 h4).2]
theorem Mp.look_ok (h : Mp w b N g) {x : Int} (hx : (Lit.int .i64 x).wf = true) : (Instr.lookup 84 (.map (some b)) (.int .i64 x) true).run Tryz.prog w = .ok (.tuple #[if x ∈ N then g x else .slice none 0 0, .bool (decide (x ∈ N))]) w := by
  obtain ⟨D, ⟨es, clock, hb, F, hs, rfl⟩, h2, h3, h4, h5⟩ := h
  rcases Maps.fit_look true iKeyed Tryz.underlying84 (zeroBys w) hb F (ikey hx) with ⟨hrun, hno, hat⟩ | ⟨e0, y, he0, hk, hrun, hRv, hat, _⟩
  · have hn : x ∉ N := fun hin => by
      obtain ⟨d, hd, ha⟩ := h5 x hin
      have e1 := (hat .nil).symm.trans (ha .nil)
      have e2 := (hat (.lit (.bool true))).symm.trans (ha (.lit (.bool true)))
      rw [← e1] at e2; cases e2
    rw [if_neg hn, decide_eq_false hn]
    exact hrun
  · have hn : x ∈ N := by
      have := h4 x
      rw [Maps.has_true_of_atKey hat] at this
      exact of_decide_eq_true this.symm
    rw [if_pos hn, decide_eq_true hn]
    obtain ⟨d, hd, ha⟩ := h5 x hn
    have e1 : y.1 = d := (hat .nil).symm.trans (ha .nil)
    have : e0.val = g x := hdr_inj (ps := y.2) (by rw [hRv, ← e1]) hd
    rw [← this]
    exact hrun
theorem Mp.look (h : Mp w b N g) {x : Int} (hx : x ∈ N) : (Instr.lookup 84 (.map (some b)) (.int .i64 x) false).run Tryz.prog w = .ok (g x) w := by
  have hw := h.wf x hx
  obtain ⟨D, h1, h2, h3, h4, h5⟩ := h
  obtain ⟨v, ps, hrun, hv⟩ := h1.lookup iKeyed Tryz.underlying84 (zeroBys w) hdr_nil (ikey hw)
  obtain ⟨d, hd, ha⟩ := h5 x hx
  rw [ha] at hv
  rw [hdr_inj hd hv]
  exact hrun
theorem Mp.store (h : Mp w b N g) {x : Int} (hx : (Lit.int .i64 x).wf = true) {v : Value} {d : DataW Unit} (hv : hdr v = some (d, [])) (hN : N.length < 1000000) :
    ∃ w', (Instr.mapUpdate 84 (.map (some b)) (.int .i64 x) v).run Tryz.prog w = .ok () w' ∧ Mp w' b (addS N x) (fun y => if y = x then v else g y) ∧ w.grownBy w' (some b) ∧ w'.heap.size = w.heap.size := by
  obtain ⟨D, h1, h2, h3, h4, h5⟩ := h
  have hlt : N.length < maxLen := by simp only [maxLen]; omega
  have hm := h1.isMap
  have hkl : WideAt.IsKeyLit (.int .i64 x) := iKeyed.key (ikey hx)
  obtain ⟨w', hrun, h6, hg, ht⟩ : ∃ w', (Instr.mapUpdate 84 (.map (some b)) (.int .i64 x) v).run Tryz.prog w = .ok () w' ∧ w'.ownsMap Tryz.prog 3 hdr b (N.length + 1) (D.put (.int .i64 x) d) ∧ w.grownBy w' (some b) ∧ w'.heap.size = w.heap.size := by
    obtain ⟨w', hrun, h6, h7⟩ := h1.store iKeyed Tryz.underlying84 hlt (ikey hx) hv
    exact ⟨w', hrun, h6, h7.grown, by obtain ⟨_, _, _, _, _, rfl⟩ := h7; simp [ChangeMaps.setBlock]⟩
  refine ⟨w', hrun, owns_mp h6 ?_ ?_ ?_ ?_, hg, ht⟩
  · unfold addS
    split
    · exact h2
    · rename_i hn
      exact List.nodup_append.2 ⟨h2, by simp, fun a ha c hc e => hn (by simp at hc; rw [← hc, ← e]; exact ha)⟩
  · intro y hy
    unfold addS at hy
    split at hy
    · exact h3 y hy
    · rcases List.mem_append.1 hy with hy | hy
      · exact h3 y hy
      · simp at hy; subst hy; exact hx
  · intro y
    have hmem : y ∈ addS N x ↔ y ∈ N ∨ y = x := by
      unfold addS
      split
      · exact ⟨.inl, fun h => h.elim id fun e => by rw [e]; assumption⟩
      · simp
    by_cases e : y = x
    · subst e
      rw [Maps.has_put_same hm hkl, decide_eq_true (hmem.2 (.inr rfl))]
    · rw [Maps.has_put_other (fun e' => e (by cases e'; rfl)), h4 y]
      exact decide_eq_decide.2 ⟨fun h => hmem.2 (.inl h), fun h => (hmem.1 h).resolve_right e⟩
  · intro y hy
    by_cases e : y = x
    · subst e
      exact ⟨d, by rw [if_pos rfl]; exact hv, fun z => Maps.atKey_put_same hm hkl d z⟩
    · have hy' : y ∈ N := by
        unfold addS at hy
        split at hy
        · exact hy
        · exact (List.mem_append.1 hy).resolve_right fun h => e (by simpa using h)
      obtain ⟨d', hd', ha'⟩ := h5 y hy'
      exact ⟨d', by rw [if_neg e]; exact hd', fun z => by rw [Maps.atKey_put_other (fun e' => e (by cases e'; rfl))]; exact ha' z⟩
end
end Go.Proofs.YtaakepjgpnaecaaGreat
namespace Go.Proofs.YtaakepjgpnaecaaGreat
open Go.RowKit Go.Shelf
def copyM_ren : Go.Shelf.Ren := ⟨fun | 5 => 84 | n => n, fun | 23 => 84 | 24 => 84 | 26 => 3 | 27 => 49 | 0 => 0 | 4 => 4 | n => n, fun | n => n⟩
theorem copyM : Go.Proofs.SlLaysX.n5 Tryz.prog copyM_ren := {
  mixed := by kernel_rfl,
  f5 := ⟨Tryz.f84.name, by decide, Tryz.func84.trans (congrArg some (by kernel_rfl))⟩,
  t0 := Tryz.underlying0,
  a0 := Tryz.isAgg0,
  z0 := Tryz.sizeOf0,
  v0 := Tryz.zeroValue0,
  t4 := Tryz.underlying4,
  a4 := Tryz.isAgg4,
  z4 := Tryz.sizeOf4,
  v4 := Tryz.zeroValue4,
  t23 := Tryz.underlying84,
  a23 := Tryz.isAgg84,
  z23 := Tryz.sizeOf84,
  v23 := Tryz.zeroValue84,
  t24 := Tryz.underlying84,
  a24 := Tryz.isAgg84,
  z24 := Tryz.sizeOf84,
  v24 := Tryz.zeroValue84,
  a26 := Tryz.isAgg3,
  z26 := Tryz.sizeOf3,
  a27 := Tryz.isAgg49,
  z27 := Tryz.sizeOf49 }
def keysM_ren : Go.Shelf.Ren := ⟨fun | 7 => 160 | 10 => 189 | n => n, fun | 23 => 84 | 26 => 3 | 3 => 49 | 28 => 224 | 0 => 0 | 27 => 223 | 33 => 71 | 4 => 4 | n => n, fun | n => n⟩
theorem keysM : Go.Proofs.SlLaysZI.n7 Tryz.prog keysM_ren := {
  mixed := by kernel_rfl,
  f7 := ⟨Tryz.f160.name, by decide, Tryz.func160.trans (congrArg some (by kernel_rfl))⟩,
  f10 := ⟨Tryz.f189.name, by decide, Tryz.func189.trans (congrArg some (by kernel_rfl))⟩,
  t0 := Tryz.underlying0,
  a0 := Tryz.isAgg0,
  z0 := Tryz.sizeOf0,
  v0 := Tryz.zeroValue0,
  t4 := Tryz.underlying4,
  a4 := Tryz.isAgg4,
  z4 := Tryz.sizeOf4,
  v4 := Tryz.zeroValue4,
  t23 := Tryz.underlying84,
  a23 := Tryz.isAgg84,
  z23 := Tryz.sizeOf84,
  v23 := Tryz.zeroValue84,
  t26 := Tryz.underlying3,
  a26 := Tryz.isAgg3,
  z26 := Tryz.sizeOf3,
  v26 := Tryz.zeroValue3,
  t27 := Tryz.underlying223,
  a27 := Tryz.isAgg223,
  z27 := Tryz.sizeOf223,
  v27 := Tryz.zeroValue223,
  t28 := Tryz.underlying224,
  a28 := Tryz.isAgg224,
  z28 := Tryz.sizeOf224,
  v28 := Tryz.zeroValue224,
  t33 := Tryz.underlying71,
  a33 := Tryz.isAgg71,
  z33 := Tryz.sizeOf71,
  v33 := Tryz.zeroValue71 }
def sortedM_ren : Go.Shelf.Ren := ⟨fun | 6 => 159 | 8 => 187 | 9 => 188 | 11 => 200 | 13 => 202 | 12 => 201 | 23 => 213 | 24 => 214 | 14 => 204 | 15 => 205 | 16 => 206 | 17 => 207 | 18 => 208 | 19 => 209 | 20 => 210 | 21 => 211 | 22 => 212 | 25 => 216 | 26 => 217 | 27 => 218 | 28 => 219 | 29 => 220 | 30 => 221 | 31 => 223 | n => n, fun | 26 => 3 | 28 => 224 | 24 => 78 | 0 => 0 | 3 => 3 | 37 => 170 | 48 => 82 | 50 => 172 | 4 => 4 | 40 => 269 | 39 => 268 | 45 => 213 | 5 => 5 | 9 => 9 | 51 => 277 | 55 => 243 | 57 => 282 | 58 => 216 | 33 => 71 | n => n, fun | n => n⟩
theorem sortedM : Go.Proofs.SlLaysZI.n6 Tryz.prog sortedM_ren := {
  mixed := by kernel_rfl,
  f6 := ⟨Tryz.f159.name, by decide, Tryz.func159.trans (congrArg some (by kernel_rfl))⟩,
  f8 := ⟨Tryz.f187.name, by decide, Tryz.func187.trans (congrArg some (by kernel_rfl))⟩,
  f11 := ⟨Tryz.f200.name, by decide, Tryz.func200.trans (congrArg some (by kernel_rfl))⟩,
  t0 := Tryz.underlying0,
  a0 := Tryz.isAgg0,
  z0 := Tryz.sizeOf0,
  v0 := Tryz.zeroValue0,
  t24 := Tryz.underlying78,
  a24 := Tryz.isAgg78,
  z24 := Tryz.sizeOf78,
  v24 := Tryz.zeroValue78,
  t26 := Tryz.underlying3,
  a26 := Tryz.isAgg3,
  z26 := Tryz.sizeOf3,
  v26 := Tryz.zeroValue3,
  t28 := Tryz.underlying224,
  a28 := Tryz.isAgg224,
  z28 := Tryz.sizeOf224,
  v28 := Tryz.zeroValue224,
  i26 := by kernel_rfl }
def sortM_ren : Go.Shelf.Ren := ⟨fun | 5 => 188 | 8 => 202 | 7 => 201 | 19 => 213 | 20 => 214 | 10 => 204 | 11 => 205 | 12 => 206 | 13 => 207 | 14 => 208 | 15 => 209 | 16 => 210 | 17 => 211 | 18 => 212 | 30 => 216 | 31 => 217 | 32 => 218 | 33 => 219 | 34 => 220 | 35 => 221 | 40 => 223 | n => n, fun | 23 => 78 | 25 => 3 | 3 => 3 | 32 => 170 | 22 => 78 | 0 => 0 | 44 => 82 | 46 => 172 | 4 => 4 | 36 => 269 | 35 => 268 | 41 => 213 | 5 => 5 | 9 => 9 | 53 => 277 | 57 => 243 | 63 => 282 | 64 => 216 | n => n, fun | n => n⟩
theorem sortM : Go.Proofs.SlLaysM.n5 Tryz.prog sortM_ren := {
  mixed := by kernel_rfl,
  f5 := ⟨Tryz.f188.name, by decide, Tryz.func188.trans (congrArg some (by kernel_rfl))⟩,
  f7 := ⟨Tryz.f201.name, by decide, Tryz.func201.trans (congrArg some (by kernel_rfl))⟩,
  f8 := Tryz.func202.trans (congrArg some (by kernel_rfl)),
  f10 := ⟨Tryz.f204.name, by decide, Tryz.func204.trans (congrArg some (by kernel_rfl))⟩,
  f11 := ⟨Tryz.f205.name, by decide, Tryz.func205.trans (congrArg some (by kernel_rfl))⟩,
  f12 := ⟨Tryz.f206.name, by decide, Tryz.func206.trans (congrArg some (by kernel_rfl))⟩,
  f13 := ⟨Tryz.f207.name, by decide, Tryz.func207.trans (congrArg some (by kernel_rfl))⟩,
  f14 := ⟨Tryz.f208.name, by decide, Tryz.func208.trans (congrArg some (by kernel_rfl))⟩,
  f15 := ⟨Tryz.f209.name, by decide, Tryz.func209.trans (congrArg some (by kernel_rfl))⟩,
  f16 := ⟨Tryz.f210.name, by decide, Tryz.func210.trans (congrArg some (by kernel_rfl))⟩,
  f17 := ⟨Tryz.f211.name, by decide, Tryz.func211.trans (congrArg some (by kernel_rfl))⟩,
  f18 := ⟨Tryz.f212.name, by decide, Tryz.func212.trans (congrArg some (by kernel_rfl))⟩,
  f19 := Tryz.func213.trans (congrArg some (by kernel_rfl)),
  f20 := Tryz.func214.trans (congrArg some (by kernel_rfl)),
  f30 := ⟨Tryz.f216.name, by decide, Tryz.func216.trans (congrArg some (by kernel_rfl))⟩,
  f31 := Tryz.func217.trans (congrArg some (by kernel_rfl)),
  f32 := Tryz.func218.trans (congrArg some (by kernel_rfl)),
  f33 := ⟨Tryz.f219.name, by decide, Tryz.func219.trans (congrArg some (by kernel_rfl))⟩,
  f34 := ⟨Tryz.f220.name, by decide, Tryz.func220.trans (congrArg some (by kernel_rfl))⟩,
  f35 := ⟨Tryz.f221.name, by decide, Tryz.func221.trans (congrArg some (by kernel_rfl))⟩,
  f40 := ⟨Tryz.f223.name, by decide, Tryz.func223.trans (congrArg some (by kernel_rfl))⟩,
  t0 := Tryz.underlying0,
  a0 := Tryz.isAgg0,
  z0 := Tryz.sizeOf0,
  v0 := Tryz.zeroValue0,
  t3 := Tryz.underlying3,
  a3 := Tryz.isAgg3,
  z3 := Tryz.sizeOf3,
  v3 := Tryz.zeroValue3,
  t4 := Tryz.underlying4,
  a4 := Tryz.isAgg4,
  z4 := Tryz.sizeOf4,
  v4 := Tryz.zeroValue4,
  t5 := Tryz.underlying5,
  a5 := Tryz.isAgg5,
  z5 := Tryz.sizeOf5,
  v5 := Tryz.zeroValue5,
  t9 := Tryz.underlying9,
  a9 := Tryz.isAgg9,
  z9 := Tryz.sizeOf9,
  v9 := Tryz.zeroValue9,
  t22 := Tryz.underlying78,
  a22 := Tryz.isAgg78,
  z22 := Tryz.sizeOf78,
  v22 := Tryz.zeroValue78,
  t23 := Tryz.underlying78,
  a23 := Tryz.isAgg78,
  z23 := Tryz.sizeOf78,
  v23 := Tryz.zeroValue78,
  t25 := Tryz.underlying3,
  a25 := Tryz.isAgg3,
  z25 := Tryz.sizeOf3,
  v25 := Tryz.zeroValue3,
  t32 := Tryz.underlying170,
  a32 := Tryz.isAgg170,
  z32 := Tryz.sizeOf170,
  v32 := Tryz.zeroValue170,
  t35 := Tryz.underlying268,
  a35 := Tryz.isAgg268,
  z35 := Tryz.sizeOf268,
  v35 := Tryz.zeroValue268,
  t36 := Tryz.underlying269,
  a36 := Tryz.isAgg269,
  z36 := Tryz.sizeOf269,
  v36 := Tryz.zeroValue269,
  t41 := Tryz.underlying213,
  a41 := Tryz.isAgg213,
  z41 := Tryz.sizeOf213,
  v41 := Tryz.zeroValue213,
  t44 := Tryz.underlying82,
  a44 := Tryz.isAgg82,
  z44 := Tryz.sizeOf82,
  v44 := Tryz.zeroValue82,
  t46 := Tryz.underlying172,
  a46 := Tryz.isAgg172,
  z46 := Tryz.sizeOf172,
  v46 := Tryz.zeroValue172,
  t53 := Tryz.underlying277,
  a53 := Tryz.isAgg277,
  z53 := Tryz.sizeOf277,
  v53 := Tryz.zeroValue277,
  t57 := Tryz.underlying243,
  a57 := Tryz.isAgg243,
  z57 := Tryz.sizeOf243,
  v57 := Tryz.zeroValue243,
  t63 := Tryz.underlying282,
  a63 := Tryz.isAgg282,
  z63 := Tryz.sizeOf282,
  v63 := Tryz.zeroValue282,
  t64 := Tryz.underlying216,
  a64 := Tryz.isAgg216,
  z64 := Tryz.sizeOf216,
  v64 := Tryz.zeroValue216 }
end Go.Proofs.YtaakepjgpnaecaaGreat
namespace Go.Proofs.YtaakepjgpnaecaaGreat
set_option maxRecDepth 100000
open Go.RowKit Go.Maps Go.Shelf
def uniN (N M : List Int) : List Int := N ++ M.filter fun x => decide (x ∉ N)
theorem mem_uniN {N M : List Int} {x : Int} : x ∈ uniN N M ↔ x ∈ N ∨ x ∈ M := by
  unfold uniN
  rw [List.mem_append, List.mem_filter, decide_eq_true_eq]
  by_cases h : x ∈ N
  · simp [h]
  · simp [h]
theorem uniN_nodup {N M : List Int} (h : N.Nodup) (k : M.Nodup) : (uniN N M).Nodup := by
  refine List.nodup_append.2 ⟨h, k.filter _, fun a ha c hc e => ?_⟩
  have := (List.mem_filter.1 hc).2
  rw [decide_eq_true_eq] at this
  exact this (e ▸ ha)
def sortN (N : List Int) : List Int := N.mergeSort leI
theorem sortN_perm (N : List Int) : (sortN N).Perm N := List.mergeSort_perm N leI
theorem sortN_length (N : List Int) : (sortN N).length = N.length := (sortN_perm N).length_eq
theorem mem_sortN {N : List Int} {x : Int} : x ∈ sortN N ↔ x ∈ N := (sortN_perm N).mem_iff
theorem sortN_nodup {N : List Int} (h : N.Nodup) : (sortN N).Nodup := (sortN_perm N).nodup_iff.2 h
theorem mCopy_of {w : World} {bd bs : Nat} {N M : List Int} {g h : Int → Value} (hd : Mp w bd N g) (hs : Mp w bs M h) (hne : bd ≠ bs) (hroom : N.length + M.length ≤ 1000000) :
    Calls Tryz.prog 84 #[.map (some bd), .map (some bs)] w fun e w' => e = .returned (.tuple #[]) ∧ Mp w' bd (uniN N M) (fun x => if x ∈ M then h x else g x) ∧ Mp w' bs M h ∧ w.grownBy w' (some bd) := by
  obtain ⟨Dd, d1, d2, d3, d4, d5⟩ := hd
  obtain ⟨Ds, s1, s2, s3, s4, s5⟩ := hs
  have hsz := (owns_size s1 s2 s4).2
  have hcon := AnyX.maps_Copy copyM iKeyed hdr bd bs N.length M.length Dd Ds w d1 s1 hne (by rw [hsz]; simp only [maxLen]; omega)
  change Calls Tryz.prog 84 _ _ _ at hcon
  refine hcon.mono ?_
  rintro e w' ⟨he, h1, h2, h3⟩
  refine ⟨he, ?_, ⟨Ds, h2, s2, s3, s4, s5⟩, h3⟩
  obtain ⟨es, rfl, hp, hk⟩ := s1.entries iKeyed
  have hm := d1.isMap
  have hhas : ∀ k, Maps.has (Lib.mergeD Dd (.map es)) k = (Maps.has Dd k || Maps.has (.map es) k) := fun k => Maps.has_foldPut k es Dd hm hk
  refine owns_mp h1 (uniN_nodup d2 s2) ?_ ?_ ?_
  · intro x hx
    exact (mem_uniN.1 hx).elim (d3 x) (s3 x)
  · intro x
    rw [hhas, d4 x, s4 x]
    by_cases ha : x ∈ N
    · rw [decide_eq_true ha, decide_eq_true (mem_uniN.2 (.inl ha))]; rfl
    · by_cases hb : x ∈ M
      · rw [decide_eq_true hb, decide_eq_true (mem_uniN.2 (.inr hb)), Bool.or_true]
      · rw [decide_eq_false ha, decide_eq_false hb, decide_eq_false (fun e => (mem_uniN.1 e).elim ha hb)]; rfl
  · intro x hx
    by_cases hb : x ∈ M
    · obtain ⟨d, hd, ha⟩ := s5 x hb
      refine ⟨d, by rw [if_pos hb]; exact hd, fun z => ?_⟩
      have hat := Maps.atKey_foldPut (.int .i64 x) z es Dd hm hk hp
      have h0 : (DataW.map es).atKey (.int .i64 x) z = d := ha z
      show (es.foldl (fun D p => D.put p.1 p.2) Dd).atKey (.int .i64 x) z = d
      cases hf : es.find? (fun p => p.1.sameKey (.int .i64 x)) with
      | none =>
        have hh := s4 x
        rw [decide_eq_true hb, Maps.has_eq, List.any_eq_true] at hh
        obtain ⟨p, hp1, hp2⟩ := hh
        have := List.find?_eq_none.1 hf p hp1
        rw [hp2] at this; exact absurd rfl this
      | some p =>
        rw [hf] at hat
        simp only [DataW.atKey, hf] at h0
        rw [hat]
        exact h0
    · have ha := (mem_uniN.1 hx).resolve_right hb
      obtain ⟨d, hd, hz⟩ := d5 x ha
      refine ⟨d, by rw [if_neg hb]; exact hd, fun z => ?_⟩
      have hat := Maps.atKey_foldPut (.int .i64 x) z es Dd hm hk hp
      show (es.foldl (fun D p => D.put p.1 p.2) Dd).atKey (.int .i64 x) z = d
      have hf : es.find? (fun p => p.1.sameKey (.int .i64 x)) = none := List.find?_eq_none.2 fun p hp1 hp2 => by
        have hh := s4 x
        rw [decide_eq_false hb, Maps.has_eq] at hh
        have := List.any_eq_false.1 hh p hp1
        exact this hp2
      rw [hf] at hat
      rw [hat]
      exact hz z
theorem mKeys_of (b : Nat) (w : World) : Calls Tryz.prog 160 #[.map (some b)] w fun e w' => e = .returned (.func (.func 189) #[] #[.pointer (some ⟨w.heap.size, 0, none⟩)]) ∧ w' = w.alloc (.cells #[.map (some b)] 84) := by
  have h := (callsIn_wide (n := 5)).1 (AnyZI.keys_in keysM Fence.wide 5 trivial rfl (some b) w)
  exact h
theorem sortsM (m : Nat) : AnyZI.SortsIn Tryz.prog sortedM_ren Fence.wide m :=
  ⟨fun blk off cap ss W hH hblk hsz => callsIn_wide.2 (AnyM.slices_Sort_int sortM blk off cap ss W hH hblk hsz),
   fun p cap W => callsIn_wide.2 (AnyM.slices_Sort_int_none sortM p cap W)⟩
theorem slSorted_of {w : World} {b p : Nat} {N : List Int} {g : Int → Value} (h : Mp w b N g) (hp : w.heap[p]? = some (.cells #[.map (some b)] 84 (0, 0))) (hN : N.length ≤ 1000000) :
    Calls Tryz.prog 159 #[.func (.func 189) #[] #[.pointer (some ⟨p, 0, none⟩)]] w fun e w' => ∃ v, e = .returned v ∧ IR w' w.heap.size v (sortN N) ∧ Below w.heap.size w w' := by
  obtain ⟨D, d1, d2, d3, d4, d5⟩ := h
  obtain ⟨hperm, hsz⟩ := owns_size d1 d2 d4
  have hpl : p < w.heap.size := (Array.getElem?_eq_some_iff.1 hp).1
  have hc : w.cell? ⟨p, 0, none⟩ = some (.map (some b)) := by rw [cell_of_row _ _ _ _ _ _ hp]; rfl
  have hseq : SeqGives Fence.wide 2 Tryz.prog 189 #[.pointer (some ⟨p, 0, none⟩)] encZ (fun ss => ss.Perm (intKeys D)) (Maps.size D) w :=
    AnyZI.keys_gives (ρ := keysM_ren) { keysM with } Fence.wide _ trivial rfl (by omega) p b N.length D w hpl hc d1
  have cS := AnyZI.sorted_in sortedM Fence.wide 5 trivial trivial trivial trivial rfl (by omega) (sortsM _) (enters_of Tryz.func188 (by kernel_rfl) rfl) 189 #[.pointer (some ⟨p, 0, none⟩)] trivial (enters_of Tryz.func189 (by kernel_rfl) rfl) _ _ (by rw [hsz]; simp only [maxLen]; omega) (by rw [hsz]; omega) w hseq
  change CallsIn _ _ Tryz.prog 159 _ _ _ at cS
  refine (callsIn_wide.1 cS).mono ?_
  rintro e w' ⟨v, ss, he, hS, hrow, hnil, hb⟩
  have e1 : ss.mergeSort (fun x y => decide (x ≤ y)) = sortN N := mergeSort_of_perm_i (hS.trans hperm.symm)
  have e2 : ss.length = (sortN N).length := by rw [sortN_length, hS.length_eq, hperm.length_eq]
  rw [e1, e2] at hrow
  refine ⟨v, he, ?_, hb⟩
  exact hrow
end Go.Proofs.YtaakepjgpnaecaaGreat
namespace Go.Proofs.YtaakepjgpnaecaaGreat
set_option maxRecDepth 100000
open Go.RowKit
structure Ext (P : Nat → Prop) (w w' : World) : Prop where
  os : w'.os = w.os
  tape : w'.tape = w.tape
  output : w'.output = w.output
  size : w.heap.size ≤ w'.heap.size
  keep : ∀ k, k < w.heap.size → ¬ P k → w'.heap[k]? = w.heap[k]?
def grP (P : Nat → Prop) (w w' : World) (k : Nat) : Prop := P k ∨ (w.heap.size ≤ k ∧ k < w'.heap.size)
theorem Ext.trans {P P2 : Nat → Prop} {a b c : World} (h : Ext P a b) (k : Ext P2 b c) (hp : ∀ x, x < a.heap.size → P2 x → P x) : Ext P a c :=
  ⟨k.os.trans h.os, k.tape.trans h.tape, k.output.trans h.output, Nat.le_trans h.size k.size, fun i hi hn => (k.keep i (Nat.lt_of_lt_of_le hi h.size) fun e => hn (hp i hi e)).trans (h.keep i hi hn)⟩
theorem Ext.of_below {P : Nat → Prop} {w w' : World} (h : Below w.heap.size w w') : Ext P w w' := ⟨h.os, h.tape, h.output, h.size, fun k hk _ => h.block k hk⟩
theorem Ext.of_chg {P Q Q' : Nat → Prop} {w w' : World} (h : Chg Q Q' w w') (hp : ∀ x, Q x → P x) : Ext P w w' := ⟨h.os, h.tape, h.output, h.size, fun k hk hn => (h.keep k hk fun e => hn (hp k e)).1⟩
theorem Ext.of_grown {P : Nat → Prop} {w w' : World} {b : Nat} (h : w.grownBy w' (some b)) (hp : P b) : Ext P w w' := ⟨h.os, h.tape, h.output, h.size, fun k hk hn => h.block k hk fun e => hn (by cases e; exact hp)⟩
theorem Ext.of_wrote {P : Nat → Prop} {w w' : World} {b : Nat} (h : Wrote w w' b) (hp : P b) : Ext P w w' := ⟨h.1, h.2.1, h.2.2.1, Nat.le_of_eq h.2.2.2.1.symm, fun k _ hn => h.2.2.2.2 k fun e => hn (e ▸ hp)⟩
theorem Ext.chg {P : Nat → Prop} {w w' : World} (h : Ext P w w') : Chg P (grP P w w') w w' := ⟨h.os, h.tape, h.output, h.size, fun k hk hn => ⟨h.keep k hk hn, fun e => e.elim hn fun e => absurd e.1 (by omega)⟩⟩
theorem Ext.sub {P Q : Nat → Prop} {w w' : World} (h : Ext P w w') (hp : ∀ x, P x → Q x) : Ext Q w w' := ⟨h.os, h.tape, h.output, h.size, fun k hk hn => h.keep k hk fun e => hn (hp k e)⟩
theorem chg_new {P P' : Nat → Prop} {w w' : World} (h : Chg P P' w w') {k : Nat} (hk : P' k) : P k ∨ w.heap.size ≤ k := by
  by_cases hl : k < w.heap.size
  · by_cases hp : P k
    · exact .inl hp
    · exact absurd hk (h.keep k hl hp).2
  · exact .inr (by omega)
theorem Dk.same {w w' : World} {P : Nat → Prop} {p : Value} {s : DS} (h : Dk w P p s) (hk : ∀ k, P k → w'.heap[k]? = w.heap[k]?) : Dk w' P p s := by
  obtain ⟨bp, bf, bv, u, hp, hd, hl, hP⟩ := h
  refine ⟨bp, bf, bv, u, hp, { hd with hp := ?_, hf := ?_, hv := ?_, hu := ownsRow_keep hd.hu fun g hg => hk g ((hP g).2 (.inr (.inr (.inr hg)))) }, hl, hP⟩
  · rw [hk _ ((hP _).2 (.inl rfl))]; exact hd.hp
  · rw [hk _ ((hP _).2 (.inr (.inl rfl)))]; exact hd.hf
  · rw [hk _ ((hP _).2 (.inr (.inr (.inl rfl))))]; exact hd.hv
def Blo (w : World) (v : Value) (l : List Int) : Prop := OB w 0 v l ∧ l.length = 256
theorem Blo.row {w : World} {v : Value} {l : List Int} (h : Blo w v l) : ∃ g cap cur, v = .slice (some ⟨g, 0, none⟩) 256 cap ∧ w.heap[g]? = some (.cells cur 5 (0, 0)) := by
  rcases h.1.2.2 with ⟨_, h0⟩ | ⟨g, cap, cur, hv, _, hh, _⟩
  · rw [h.2] at h0; cases h0
  · exact ⟨g, cap, cur, by rw [hv, h.2], hh⟩
theorem Blo.hdr {w : World} {v : Value} {l : List Int} (h : Blo w v l) : ∃ d, hdr v = some (d, []) := by
  obtain ⟨g, cap, cur, rfl, _⟩ := h.row
  exact ⟨_, hdr_some g 0 256 cap⟩
theorem Blo.keep {w w' : World} {v : Value} {l : List Int} (h : Blo w v l) (hk : ∀ g, v.ownBlock = some g → w'.heap[g]? = w.heap[g]?) : Blo w' v l := ⟨⟨h.1.1, ownsRow_keep h.1.2 hk⟩, h.2⟩
theorem Blo.lt {w : World} {v : Value} {l : List Int} (h : Blo w v l) {g : Nat} (hg : v.ownBlock = some g) : g < w.heap.size := (World.ownsRow.lt h.1.2 g hg).2
theorem Blo.at {w : World} {v : Value} {l : List Int} (h : Blo w v l) {g : Nat} (hg : v.ownBlock = some g) : ∃ cur, w.heap[g]? = some (.cells cur 5 (0, 0)) := by
  obtain ⟨g', cap, cur, rfl, hh⟩ := h.row
  obtain rfl : g' = g := by simpa [Value.ownBlock] using hg
  exact ⟨cur, hh⟩
def SOwn (Pd : Nat → Prop) (b be bp : Nat) (ek : List Int) (eg : Int → Value) (pk : List Int) (pg : Int → Value) (k : Nat) : Prop :=
  Pd k ∨ k = b ∨ k = be ∨ k = bp ∨ (∃ x, x ∈ ek ∧ (eg x).ownBlock = some k) ∨ ∃ x, x ∈ pk ∧ (pg x).ownBlock = some k
structure SMem (w : World) (Pd : Nat → Prop) (b be bp : Nat) (d : Value) (q : Int) (ek : List Int) (eg : Int → Value) (ev : Int → List Int) (pk : List Int) (pg : Int → Value) (pv : Int → List Int) (wi : Bool) (ds : DS) : Prop where
  hb : w.heap[b]? = some (.cells #[d, .int .u32 q, .map (some be), .map (some bp), .bool wi, .bool false] 86 (0, 0))
  dk : Dk w Pd d ds
  q0 : 0 ≤ q ∧ q < 4294967296
  me : Mp w be ek eg
  mp : Mp w bp pk pg
  ne : be ≠ bp
  re : ∀ x ∈ ek, Blo w (eg x) (ev x)
  rp : ∀ x ∈ pk, Blo w (pg x) (pv x)
def inK (n : Nat) (x : Int) : Prop := 0 ≤ x ∧ x < n ∧ OutJ x.toNat
structure SPl (X : XSt) (ek : List Int) (ev : Int → List Int) (pk : List Int) (pv : Int → List Int) : Prop where
  ok : XOk X
  n64 : 64 ≤ X.is.length ∧ X.is.length ≤ 768
  u0 : X.ds.U = []
  ki : ∀ x ∈ ek, inK X.is.length x
  kp : ∀ x ∈ pk, inK X.is.length x
  el : ek.length ≤ 37
  pl : pk.length ≤ 37
  dt : X.dt = ek.length
  isx : ∀ i, OutJ i → i < X.is.length → X.is.getD i [] = if (i : Int) ∈ ek then ev i else X.base.getD i []
  wi0 : X.wi = false → pk = []
  wi1 : X.wi = true → X.put = pk ∧ X.call.length = X.is.length ∧ ∀ i, OutJ i → i < X.is.length → X.call.getD i [] = if (i : Int) ∈ pk then pv i else X.is.getD i []
def SInv (w : World) (P : Nat → Prop) (d p : Value) (X : XSt) : Prop :=
  ∃ b be bp Pd q ek eg ev pk pg pv, p = .pointer (some ⟨b, 0, none⟩) ∧ SMem w Pd b be bp d q ek eg ev pk pg pv X.wi X.ds ∧ SPl X ek ev pk pv ∧ (∀ k, SOwn Pd b be bp ek eg pk pg k → P k) ∧ ∀ k, P k → k < w.heap.size
def SDead (w : World) (P : Nat → Prop) (d p : Value) (ds : DS) : Prop :=
  ∃ b Pd, p = .pointer (some ⟨b, 0, none⟩) ∧ w.heap[b]? = some (.cells #[.pointer none, .int .u32 0, .map none, .map none, .bool false, .bool true] 86 (0, 0)) ∧ Dk w Pd d ds ∧ (∀ k, Pd k ∨ k = b → P k) ∧ ∀ k, P k → k < w.heap.size
section
variable {w : World} {Pd : Nat → Prop} {b be bp : Nat} {d : Value} {q : Int} {ek : List Int} {eg : Int → Value} {ev : Int → List Int} {pk : List Int} {pg : Int → Value} {pv : Int → List Int} {wi : Bool} {ds : DS}
theorem SMem.bl (h : SMem w Pd b be bp d q ek eg ev pk pg pv wi ds) : b < w.heap.size := (Array.getElem?_eq_some_iff.1 h.hb).1
theorem SMem.lt (h : SMem w Pd b be bp d q ek eg ev pk pg pv wi ds) (k : Nat) (hk : SOwn Pd b be bp ek eg pk pg k) : k < w.heap.size := by
  rcases hk with hk | rfl | rfl | rfl | ⟨x, hx, hg⟩ | ⟨x, hx, hg⟩
  · exact h.dk.lt k hk
  · exact h.bl
  · exact h.me.lt
  · exact h.mp.lt
  · exact (h.re x hx).lt hg
  · exact (h.rp x hx).lt hg
theorem SMem.same (h : SMem w Pd b be bp d q ek eg ev pk pg pv wi ds) {w' : World} (hk : ∀ k, SOwn Pd b be bp ek eg pk pg k → w'.heap[k]? = w.heap[k]?) : SMem w' Pd b be bp d q ek eg ev pk pg pv wi ds :=
  ⟨by rw [hk b (.inr (.inl rfl))]; exact h.hb, h.dk.same fun k hp => hk k (.inl hp), h.q0, h.me.keep (hk be (.inr (.inr (.inl rfl)))), h.mp.keep (hk bp (.inr (.inr (.inr (.inl rfl))))), h.ne,
    fun x hx => (h.re x hx).keep fun g hg => hk g (.inr (.inr (.inr (.inr (.inl ⟨x, hx, hg⟩))))), fun x hx => (h.rp x hx).keep fun g hg => hk g (.inr (.inr (.inr (.inr (.inr ⟨x, hx, hg⟩)))))⟩
theorem SMem.below (h : SMem w Pd b be bp d q ek eg ev pk pg pv wi ds) {w' : World} (hb : Below w.heap.size w w') : SMem w' Pd b be bp d q ek eg ev pk pg pv wi ds := h.same fun k hk => hb.block k (h.lt k hk)
theorem SMem.ci (h : SMem w Pd b be bp d q ek eg ev pk pg pv wi ds) (i : Nat) : w.cell? ⟨b, i, none⟩ = (#[d, .int .u32 q, .map (some be), .map (some bp), .bool wi, .bool false] : Array Value)[i]? := cell_of_row _ _ _ _ _ _ h.hb
theorem SMem.fr (h : SMem w Pd b be bp d q ek eg ev pk pg pv wi ds) (i : Nat) : w.frozen? ⟨b, i, none⟩ = false := by simp [World.frozen?, h.hb]
theorem SMem.c0 (h : SMem w Pd b be bp d q ek eg ev pk pg pv wi ds) : w.cell? ⟨b, 0, none⟩ = some d := h.ci 0
theorem SMem.c1 (h : SMem w Pd b be bp d q ek eg ev pk pg pv wi ds) : w.cell? ⟨b, 1, none⟩ = some (.int .u32 q) := h.ci 1
theorem SMem.c2 (h : SMem w Pd b be bp d q ek eg ev pk pg pv wi ds) : w.cell? ⟨b, 2, none⟩ = some (.map (some be)) := h.ci 2
theorem SMem.c3 (h : SMem w Pd b be bp d q ek eg ev pk pg pv wi ds) : w.cell? ⟨b, 3, none⟩ = some (.map (some bp)) := h.ci 3
theorem SMem.c4 (h : SMem w Pd b be bp d q ek eg ev pk pg pv wi ds) : w.cell? ⟨b, 4, none⟩ = some (.bool wi) := h.ci 4
theorem SMem.c5 (h : SMem w Pd b be bp d q ek eg ev pk pg pv wi ds) : w.cell? ⟨b, 5, none⟩ = some (.bool false) := h.ci 5
theorem SMem.nd (h : SMem w Pd b be bp d q ek eg ev pk pg pv wi ds) : ¬ Pd b := h.dk.not h.hb (by decide) (by decide) (by decide)
theorem dk_not_map {P : Nat → Prop} {p : Value} {s : DS} (h : Dk w P p s) {k : Nat} {es : Array MapEntry} {cl : Nat} (hk : w.heap[k]? = some (.map es cl)) : ¬ P k := fun hp => by
  obtain ⟨_, _, he, _⟩ := h.types k hp
  rw [hk] at he; cases he
theorem Mp.nd {P : Nat → Prop} {p : Value} {s : DS} {m : Nat} {N : List Int} {g : Int → Value} (h : Dk w P p s) (hm : Mp w m N g) : ¬ P m := by
  obtain ⟨_, ⟨es, cl, hh, _⟩, _⟩ := hm
  exact dk_not_map h hh
theorem SMem.nb (h : SMem w Pd b be bp d q ek eg ev pk pg pv wi ds) : be ≠ b ∧ bp ≠ b := ⟨h.me.not_cells h.hb, h.mp.not_cells h.hb⟩
theorem Blo.ne {v : Value} {l : List Int} (hv : Blo w v l) {g : Nat} (hg : v.ownBlock = some g) {k : Nat} {cs : Array Value} {T : TypeId} {z : Nat × Nat} (hk : w.heap[k]? = some (.cells cs T z)) (hT : T ≠ 5) : g ≠ k := fun e => by
  obtain ⟨cur, hh⟩ := hv.at hg
  rw [e, hk] at hh
  injection hh with hh
  injection hh with _ e2
  exact hT e2
theorem Blo.nm {v : Value} {l : List Int} (hv : Blo w v l) {g : Nat} (hg : v.ownBlock = some g) {m : Nat} {N : List Int} {gg : Int → Value} (hm : Mp w m N gg) : g ≠ m := fun e => by
  obtain ⟨cur, hh⟩ := hv.at hg
  exact hm.not_cells hh e.symm
theorem Blo.nd {v : Value} {l : List Int} (hv : Blo w v l) {g : Nat} (hg : v.ownBlock = some g) {P : Nat → Prop} {p : Value} {s : DS} (h : Dk w P p s) : ¬ P g := by
  obtain ⟨cur, hh⟩ := hv.at hg
  exact h.not hh (by decide) (by decide) (by decide)
theorem SMem.disk (h : SMem w Pd b be bp d q ek eg ev pk pg pv wi ds) {w' : World} {Pd' : Nat → Prop} {ds' : DS} (hd : Dk w' Pd' d ds') (hc : Chg Pd Pd' w w') : SMem w' Pd' b be bp d q ek eg ev pk pg pv wi ds' :=
  ⟨by rw [(hc.keep b h.bl h.nd).1]; exact h.hb, hd, h.q0, h.me.keep (hc.keep be h.me.lt (Mp.nd h.dk h.me)).1, h.mp.keep (hc.keep bp h.mp.lt (Mp.nd h.dk h.mp)).1, h.ne,
    fun x hx => (h.re x hx).keep fun g hg => (hc.keep g ((h.re x hx).lt hg) ((h.re x hx).nd hg h.dk)).1, fun x hx => (h.rp x hx).keep fun g hg => (hc.keep g ((h.rp x hx).lt hg) ((h.rp x hx).nd hg h.dk)).1⟩
end
theorem SInv.keep {w w' : World} {P : Nat → Prop} {d p : Value} {X : XSt} (h : SInv w P d p X) (hs : w.heap.size ≤ w'.heap.size) (hk : ∀ k, P k → w'.heap[k]? = w.heap[k]?) : SInv w' P d p X := by
  obtain ⟨b, be, bp, Pd, q, ek, eg, ev, pk, pg, pv, hp, hm, hpl, ho, hl⟩ := h
  exact ⟨b, be, bp, Pd, q, ek, eg, ev, pk, pg, pv, hp, hm.same fun k h => hk k (ho k h), hpl, ho, fun k h => Nat.lt_of_lt_of_le (hl k h) hs⟩
theorem SDead.keep {w w' : World} {P : Nat → Prop} {d p : Value} {ds : DS} (h : SDead w P d p ds) (hs : w.heap.size ≤ w'.heap.size) (hk : ∀ k, P k → w'.heap[k]? = w.heap[k]?) : SDead w' P d p ds := by
  obtain ⟨b, Pd, hp, hb, hd, ho, hl⟩ := h
  exact ⟨b, Pd, hp, by rw [hk b (ho b (.inr rfl))]; exact hb, hd.same fun k h => hk k (ho k (.inl h)), ho, fun k h => Nat.lt_of_lt_of_le (hl k h) hs⟩
theorem sLoggable_is (w : World) (n : Int) : Calls Tryz.prog 43 #[.int .i64 n] w fun e w' => e = .returned (.bool (decide (n < 768))) ∧ w = w' := by
  go_enter Tryz.func43, Tryz.ntmps43
  go_wp2
  go_ret
  trivial
section
variable {w : World} {Pd : Nat → Prop} {b be bp : Nat} {d : Value} {q : Int} {ek : List Int} {eg : Int → Value} {ev : Int → List Int} {pk : List Int} {pg : Int → Value} {pv : Int → List Int} {wi : Bool} {ds : DS}
theorem sUsable_is (h : SMem w Pd b be bp d q ek eg ev pk pg pv wi ds) : Calls Tryz.prog 48 #[.pointer (some ⟨b, 0, none⟩)] w fun e w' => e = .returned (.int .i64 0) ∧ w = w' := by
  have c5 := h.c5
  clear h
  go_enter Tryz.func48, Tryz.ntmps48
  go_wp2
  go_ret
  exact ⟨rfl, rfl⟩
theorem sAllows_is (h : SMem w Pd b be bp d q ek eg ev pk pg pv wi ds) (x : Bool) : Calls Tryz.prog 35 #[.pointer (some ⟨b, 0, none⟩), .bool x] w fun e w' => e = .returned (.int .i64 (if wi = x then 0 else 17)) ∧ w = w' := by
  have KU := Lib.hid (sUsable_is h)
  have c4 := h.c4
  clear h
  go_enter Tryz.func35, Tryz.ntmps35
  go_wp2_with (go_at_call 48; refine KU.out.mono ?_; rintro e w' ⟨rfl, rfl⟩)
  all_goals (cases wi <;> cases x <;> simp_all <;> go_ret <;> exact ⟨rfl, rfl⟩)
theorem sHas_is (h : SMem w Pd b be bp d q ek eg ev pk pg pv wi ds) (n : Int) : Calls Tryz.prog 42 #[.pointer (some ⟨b, 0, none⟩), .int .i64 n] w fun e w' => e = .returned (.bool (decide (0 ≤ n ∧ n < ds.F.length))) ∧ w = w' := by
  have KB := Lib.hid (kBlocks h.dk)
  have c0 := h.c0
  clear h
  by_cases h0 : 0 ≤ n
  · have e1 : decide (0 ≤ n ∧ n < ds.F.length) = decide (n < ds.F.length) := by simp [h0]
    rw [e1]
    go_enter Tryz.func42, Tryz.ntmps42
    go_wp2_with (go_at_call 77; refine KB.out.mono ?_; rintro e w' ⟨rfl, rfl⟩)
    go_ret
    exact ⟨rfl, rfl⟩
  · have e1 : decide (0 ≤ n ∧ n < ds.F.length) = false := by simp [h0]
    rw [e1]
    go_enter Tryz.func42, Tryz.ntmps42
    go_wp2_with (go_at_call 77; refine KB.out.mono ?_; rintro e w' ⟨rfl, rfl⟩)
    go_ret
    exact ⟨rfl, rfl⟩
theorem sChanged_is (h : SMem w Pd b be bp d q ek eg ev pk pg pv wi ds) {n : Int} (hn : (Lit.int .i64 n).wf = true) : Calls Tryz.prog 49 #[.pointer (some ⟨b, 0, none⟩), .int .i64 n] w fun e w' =>
    e = .returned (.tuple #[if n ∈ pk then pg n else if n ∈ ek then eg n else .slice none 0 0, .bool (decide (n ∈ pk) || decide (n ∈ ek))]) ∧ w = w' := by
  have c2 := h.c2
  have c3 := h.c3
  have le := h.me.look_ok hn
  have lp := h.mp.look_ok hn
  clear h
  obtain ⟨x, hx⟩ : ∃ x, x = (if n ∈ ek then eg n else .slice none 0 0) := ⟨_, rfl⟩
  obtain ⟨y, hy⟩ : ∃ y, y = (if n ∈ pk then pg n else .slice none 0 0) := ⟨_, rfl⟩
  obtain ⟨xb, hxb⟩ : ∃ xb, xb = decide (n ∈ ek) := ⟨_, rfl⟩
  rw [← hx, ← hxb] at le
  rw [← hy] at lp
  by_cases hp : n ∈ pk
  · rw [if_pos hp] at hy ⊢
    rw [decide_eq_true hp] at lp ⊢
    rw [← hy]
    clear hp hx hxb hy le
    go_enter Tryz.func49, Tryz.ntmps49
    go_wp2
    go_ret2
    exact ⟨rfl, rfl⟩
  · rw [if_neg hp]
    rw [decide_eq_false hp] at lp ⊢
    rw [← hx, ← hxb]
    clear hp hx hxb hy
    go_enter Tryz.func49, Tryz.ntmps49
    go_wp2
    go_ret2
    exact ⟨rfl, rfl⟩
end
theorem sizeSt : (Tryz.prog.info? 86).map (·.size) = some 6 := by kernel_rfl
theorem wpList_store_st {ops : Array Oper} {rest : List Oper} {o : Oper} {a : Act} {w : World} {Q : Exit → Act → World → Prop} (hgd : o.guard = none) (x y : Operand) (ho : o.op = .store 86 x y)
    (g : Nat) (hx : a.eval x = .pointer (some ⟨g, 0, none⟩)) (c0 c1 c2 c3 c4 c5 d0 d1 d2 d3 d4 d5 : Value) (hy : a.eval y = .agg #[d0, d1, d2, d3, d4, d5]) (h0 : d0.oneCell' = true) (h1 : d1.oneCell' = true) (h2 : d2.oneCell' = true) (h3 : d3.oneCell' = true) (h4 : d4.oneCell' = true) (h5 : d5.oneCell' = true)
    (hg : w.heap[g]? = some (.cells #[c0, c1, c2, c3, c4, c5] 86 (0, 0)))
    (h : ∀ w', Wrote w w' g → w'.heap[g]? = some (.cells #[d0, d1, d2, d3, d4, d5] 86 (0, 0)) → wpList Tryz.prog ops Q rest (a.put o.dst undef) w') : wpList Tryz.prog ops Q (o :: rest) a w :=
  wpList_store_row hgd 86 x y ho g #[d0, d1, d2, d3, d4, d5] hx hy 86 _ hg sizeSt rfl (by simp [h0, h1, h2, h3, h4, h5]) (h _ (Wrote.setRow _ _ _) (setRow_heap _ _ _ _ _ _ hg))
theorem sMet_ok (p : Value) (w : World) (e : Int) (he : e ≠ 2) : Calls Tryz.prog 51 #[p, .int .i64 e] w fun e' w' => e' = .returned (.int .i64 e) ∧ w = w' := by
  go_enter Tryz.func51, Tryz.ntmps51
  go_wp2
  go_ret
  exact ⟨rfl, rfl⟩
section
variable {w : World} {Pd : Nat → Prop} {b be bp : Nat} {d : Value} {q : Int} {ek : List Int} {eg : Int → Value} {ev : Int → List Int} {pk : List Int} {pg : Int → Value} {pv : Int → List Int} {wi : Bool} {ds : DS}
theorem sMet_io (h : SMem w Pd b be bp d q ek eg ev pk pg pv wi ds) : Calls Tryz.prog 51 #[.pointer (some ⟨b, 0, none⟩), .int .i64 2] w fun e w' => e = .returned (.int .i64 2) ∧ Wrote w w' b ∧ w'.heap[b]? = some (.cells #[.pointer none, .int .u32 0, .map none, .map none, .bool false, .bool true] 86 (0, 0)) := by
  have hb := h.hb
  clear h
  go_enter Tryz.func51, Tryz.ntmps51
  go_wp2_with (refine wpList_store_st rfl _ _ (by rfl) b (by rfl) _ _ _ _ _ _ _ _ _ _ _ _ (by rfl) rfl rfl rfl rfl rfl rfl hb ?_; intro w2 hw2 hb2)
  go_ret
  exact ⟨rfl, hw2, hb2⟩
end
theorem SMem.setwi {w w' : World} {Pd : Nat → Prop} {b be bp : Nat} {d : Value} {q : Int} {ek : List Int} {eg : Int → Value} {ev : Int → List Int} {pk : List Int} {pg : Int → Value} {pv : Int → List Int} {wi wi' : Bool} {ds : DS} (h : SMem w Pd b be bp d q ek eg ev pk pg pv wi ds)
    (hw : Wrote w w' b) (hb : w'.heap[b]? = some (.cells #[d, .int .u32 q, .map (some be), .map (some bp), .bool wi', .bool false] 86 (0, 0))) : SMem w' Pd b be bp d q ek eg ev pk pg pv wi' ds :=
  ⟨hb, h.dk.same fun k hk => hw.2.2.2.2 k fun e => h.nd (e ▸ hk), h.q0, h.me.keep (hw.2.2.2.2 be h.nb.1), h.mp.keep (hw.2.2.2.2 bp h.nb.2), h.ne,
    fun x hx => (h.re x hx).keep fun g hg => hw.2.2.2.2 g ((h.re x hx).ne hg h.hb (by decide)), fun x hx => (h.rp x hx).keep fun g hg => hw.2.2.2.2 g ((h.rp x hx).ne hg h.hb (by decide))⟩
theorem setCell_row4 {w : World} {b : Nat} {c0 c1 c2 c3 c4 c5 : Value} {T : TypeId} (h : w.heap[b]? = some (.cells #[c0, c1, c2, c3, c4, c5] T (0, 0))) (x : Value) : (w.setCell ⟨b, 4, none⟩ x).heap[b]? = some (.cells #[c0, c1, c2, c3, x, c5] T (0, 0)) := by
  rw [heap_setCell_same w b 4 _ _ x h]
  rfl
section
variable {w : World} {P : Nat → Prop} {d p : Value} {X : XSt}
theorem sBegin_of (h : SInv w P d p X) : Calls Tryz.prog 14 #[p] w (XOut SInv w P d p (xBegin X)) := by
  obtain ⟨b, be, bp, Pd, q, ek, eg, ev, pk, pg, pv, rfl, hm, hpl, ho, hl⟩ := h
  unfold xBegin XOut
  cases hw : X.wi
  · have KA := Lib.hid (sAllows_is hm false)
    rw [hw] at KA
    have HB := Lib.hid hm.hb
    have c4 := hm.c4
    have f4 := hm.fr 4
    rw [hw] at c4
    refine Calls.mono (R := fun e w' => e = .returned (.int .i64 0) ∧ w' = w.setCell ⟨b, 4, none⟩ (.bool true)) ?_ ?_
    · clear hm hpl ho hl hw HB
      go_enter Tryz.func14, Tryz.ntmps14
      go_wp2_with (go_at_call 35; refine KA.out.mono ?_; rintro e w' ⟨rfl, rfl⟩)
      go_ret
      exact ⟨rfl, rfl⟩
    · rintro e w' ⟨rfl, rfl⟩
      have hwr := Wrote.setCell w b 4 (.bool true)
      have hm' := hm.setwi (wi' := true) hwr (setCell_row4 HB.out _)
      refine ⟨rfl, P, ⟨b, be, bp, Pd, q, ek, eg, ev, pk, pg, pv, rfl, hm', ?_, ho, fun k hk => by rw [hwr.2.2.2.1]; exact hl k hk⟩, ?_⟩
      · have hp0 := hpl.wi0 hw
        refine { hpl with ok := { hpl.ok with call := fun _ => rfl }, wi0 := fun e => (by cases e), wi1 := fun _ => ⟨hp0.symm, rfl, fun i _ _ => ?_⟩ }
        rw [hp0, if_neg List.not_mem_nil]; rfl
      · exact ⟨hwr.1, hwr.2.1, hwr.2.2.1, Nat.le_of_eq hwr.2.2.2.1.symm, fun k _ hn => ⟨hwr.2.2.2.2 k fun e => hn (e ▸ ho b (.inr (.inl rfl))), hn⟩⟩
  · have KA := Lib.hid (sAllows_is hm false)
    rw [hw] at KA
    refine Calls.mono (R := fun e w' => e = .returned (.int .i64 17) ∧ w = w') ?_ ?_
    · clear hm hpl ho hl hw
      go_enter Tryz.func14, Tryz.ntmps14
      go_wp2_with (go_at_call 35; refine KA.out.mono ?_; rintro e w' ⟨rfl, rfl⟩)
      go_ret
      exact ⟨rfl, rfl⟩
    · rintro e w' ⟨rfl, rfl⟩
      exact ⟨rfl, P, ⟨b, be, bp, Pd, q, ek, eg, ev, pk, pg, pv, rfl, hm, hpl, ho, hl⟩, Chg.refl _ _⟩
theorem sGet_out (h : SInv w P d p X) {n : Int} (hn : n < 0 ∨ (X.is.length : Int) ≤ n) : Calls Tryz.prog 18 #[p, .int .i64 n] w fun e w' => e = .returned (.tuple #[.slice none 0 0, .int .i64 1]) ∧ ∃ P', SInv w' P' d p X ∧ Chg P P' w w' := by
  have h' := h
  obtain ⟨b, be, bp, Pd, q, ek, eg, ev, pk, pg, pv, rfl, hm, hpl, ho, hl⟩ := h
  have KU := Lib.hid (sUsable_is hm)
  have KH := Lib.hid (sHas_is hm n)
  rw [decide_eq_false (by have := hpl.ok.lst.1; omega)] at KH
  refine Calls.mono (R := fun e w' => e = .returned (.tuple #[.slice none 0 0, .int .i64 1]) ∧ w = w') ?_ ?_
  · clear hm hpl ho hl hn h'
    go_enter Tryz.func18, Tryz.ntmps18
    go_wp2_with (first
      | (go_at_call 48; refine KU.out.mono ?_; rintro e w' ⟨rfl, rfl⟩)
      | (go_at_call 42; refine KH.out.mono ?_; rintro e w' ⟨rfl, rfl⟩))
    go_ret2
    exact ⟨rfl, rfl⟩
  · rintro e w' ⟨rfl, rfl⟩
    exact ⟨rfl, P, h', Chg.refl _ _⟩
theorem sGet_own (h : SInv w P d p X) {n : Nat} (hn : n < X.is.length) : Calls Tryz.prog 18 #[p, .int .i64 n] w fun e w' => ∃ v l, e = .returned (.tuple #[v, .int .i64 0]) ∧ BSl w' v l ∧ (OutJ n → l = (if X.wi = true then X.call else X.is).getD n []) ∧ Below w.heap.size w w' := by
  have h' := h
  obtain ⟨b, be, bp, Pd, q, ek, eg, ev, pk, pg, pv, rfl, hm, hpl, ho, hl⟩ := h
  have hFl := hpl.ok.lst.1
  have h768 := hpl.n64.2
  have hwf : (Lit.int .i64 (n : Int)).wf = true := i64wf (by omega)
  have KU := Lib.hid (sUsable_is hm)
  have KH := Lib.hid (sHas_is hm n)
  have KC := Lib.hid (sChanged_is hm hwf)
  rw [decide_eq_true (by omega)] at KH
  have hcall : OutJ n → (if X.wi = true then X.call else X.is).getD n [] = if (n : Int) ∈ pk then pv n else if (n : Int) ∈ ek then ev n else X.base.getD n [] := fun ho => by
    have h1 := hpl.isx n ho hn
    cases hw : X.wi
    · have h0 := hpl.wi0 hw
      rw [if_neg (by decide), h1, h0, if_neg List.not_mem_nil]
    · obtain ⟨_, _, h2⟩ := hpl.wi1 hw
      rw [if_pos rfl, h2 n ho hn, h1]
  by_cases hin : (n : Int) ∈ pk ∨ (n : Int) ∈ ek
  · obtain ⟨v, hv⟩ : ∃ v, v = (if (n : Int) ∈ pk then pg n else if (n : Int) ∈ ek then eg n else .slice none 0 0) := ⟨_, rfl⟩
    obtain ⟨l, hl'⟩ : ∃ l, l = (if (n : Int) ∈ pk then pv n else if (n : Int) ∈ ek then ev n else X.base.getD n []) := ⟨_, rfl⟩
    have hblo : Blo w v l := by
      rw [hv, hl']
      by_cases hp : (n : Int) ∈ pk
      · rw [if_pos hp, if_pos hp]; exact hm.rp _ hp
      · rw [if_neg hp, if_neg hp, if_pos (hin.resolve_left hp), if_pos (hin.resolve_left hp)]; exact hm.re _ (hin.resolve_left hp)
    have hd : (decide ((n : Int) ∈ pk) || decide ((n : Int) ∈ ek)) = true := by simpa using hin
    rw [← hv, hd] at KC
    have KB := Lib.hid (bClone_of hblo.1.bsl (by rw [hblo.2]; decide))
    refine Calls.mono (R := fun e w' => ∃ v', e = .returned (.tuple #[v', .int .i64 0]) ∧ OB w' w.heap.size v' l ∧ Below w.heap.size w w') ?_ ?_
    · clear hm hpl ho hl h' hcall hin hv hl' hblo hd hwf hFl h768 hn
      go_enter Tryz.func18, Tryz.ntmps18
      go_wp2_with (first
        | (go_at_call 48; refine KU.out.mono ?_; rintro e w' ⟨rfl, rfl⟩)
        | (go_at_call 42; refine KH.out.mono ?_; rintro e w' ⟨rfl, rfl⟩)
        | (go_at_call 49; refine KC.out.mono ?_; rintro e w' ⟨rfl, rfl⟩)
        | (go_at_call 44; refine KB.out.mono ?_; rintro e w' ⟨v', rfl, hob, hbe⟩))
      go_ret2
      exact ⟨v', rfl, hob, hbe⟩
    · rintro e w' ⟨v', rfl, hob, hbe⟩
      exact ⟨v', l, rfl, hob.bsl, fun ho => by rw [hcall ho, hl'], hbe⟩
  · have hd : (decide ((n : Int) ∈ pk) || decide ((n : Int) ∈ ek)) = false := by simpa using hin
    rw [hd] at KC
    have hnp : (n : Int) ∉ pk := fun e => hin (.inl e)
    have hne : (n : Int) ∉ ek := fun e => hin (.inr e)
    rw [if_neg hnp, if_neg hne] at KC
    have KR := Lib.hid (kRead hm.dk n (by omega) hpl.ok.pow)
    have KM := Lib.hid (fun (W : World) => sMet_ok (.pointer (some ⟨b, 0, none⟩)) W 0 (by decide))
    have c0 := hm.c0
    refine Calls.mono (R := fun e w' => ∃ v', e = .returned (.tuple #[v', .int .i64 0]) ∧ BSl w' v' (X.ds.vis.getD n []) ∧ Below w.heap.size w w') ?_ ?_
    · clear hm hpl ho hl h' hcall hin hd hwf hFl h768 hn hnp hne
      go_enter Tryz.func18, Tryz.ntmps18
      go_wp2_with (first
        | (go_at_call 48; refine KU.out.mono ?_; rintro e w' ⟨rfl, rfl⟩)
        | (go_at_call 42; refine KH.out.mono ?_; rintro e w' ⟨rfl, rfl⟩)
        | (go_at_call 49; refine KC.out.mono ?_; rintro e w' ⟨rfl, rfl⟩)
        | (go_at_call 50; refine KR.out.mono ?_; rintro e w' ⟨v', rfl, hbs, hbe, rfl⟩)
        | (go_at_call 51; refine (KM.out _).mono ?_; rintro e w'' ⟨rfl, rfl⟩))
      go_ret2
      exact ⟨_, rfl, hbs, hbe⟩
    · rintro e w' ⟨v', rfl, hbs, hbe⟩
      refine ⟨v', _, rfl, hbs, fun ho => ?_, hbe⟩
      rw [hcall ho, if_neg hnp, if_neg hne]
      have hg := hpl.ok.lst.glen
      exact hpl.ok.lst.2.1.2 n ho (by omega)
theorem sGet_in (h : SInv w P d p X) {n : Nat} (hn : n < X.is.length) : Calls Tryz.prog 18 #[p, .int .i64 n] w fun e w' => ∃ v l, e = .returned (.tuple #[v, .int .i64 0]) ∧ BSl w' v l ∧ (OutJ n → l = (if X.wi = true then X.call else X.is).getD n []) ∧ ∃ P', SInv w' P' d p X ∧ Chg P P' w w' := by
  have hl := h
  obtain ⟨b, be, bp, Pd, q, ek, eg, ev, pk, pg, pv, rfl, hm, hpl, ho, hl'⟩ := hl
  exact (sGet_own h hn).mono fun e w' ⟨v, l, he, hb, hj, hbe⟩ => ⟨v, l, he, hb, hj, P, h.keep hbe.size fun k hk => hbe.block k (hl' k hk), Chg.of_below hbe⟩
end
end Go.Proofs.YtaakepjgpnaecaaGreat
namespace Go.Proofs.YtaakepjgpnaecaaGreat
set_option maxRecDepth 100000
open Go.RowKit BM
theorem spLaid_is {w : World} {v : Value} {O : List (Int × Int)} (hs : OwSl w v O) (hO : O.length = 64) {g : Nat} (hg : g < 12) (hx : ∀ j, j < 64 → decide ((O.getD j (0, 0)).1 = 65535) = fixB (64 * (g : Int) + j)) :
    Calls Tryz.prog 69 #[.int .i64 g, v] w fun e w' => e = .returned (.bool true) ∧ Below w.heap.size w w' := by
  obtain ⟨b, off, cap, rfl, hb, hc⟩ := hs.at (by omega)
  have HC := Lib.hid hc
  have HBB := Lib.hid hs.1
  have HX := Lib.hid hx
  have HO := Lib.hid hO
  rw [hO]
  clear hc hs hx hO
  go_enter Tryz.func69, Tryz.ntmps69
  go_wp2
  go_loopw [9] (fun i wr => ∃ k : Nat, k ≤ 64 ∧ i = .int .i64 k ∧ Below w.heap.size w wr) (fun i _ => 64 - (intOf i).toNat)
  case atStart => exact ⟨0, by omega, rfl, Below.refl _ _⟩
  case round =>
    obtain ⟨k, hk, rfl, hbr⟩ := hrel
    by_cases hlt : k < 64
    · have hck := HC.out k (by rw [HO.out]; exact hlt)
      have hxk := HX.out k hlt
      have hbd := HBB.out k
      obtain ⟨x, hx⟩ : ∃ x, x = (O.getD k (0, 0)).1 := ⟨_, rfl⟩
      obtain ⟨y, hy⟩ : ∃ y, y = (O.getD k (0, 0)).2 := ⟨_, rfl⟩
      rw [← hx, ← hy] at hck hbd
      rw [← hx] at hxk
      have c1 := (hbr.cell (p := ⟨b, off + k * 2, none⟩) hb).trans hck.1
      have c2 := (hbr.cell (p := ⟨b, off + k * 2 + 1, none⟩) hb).trans hck.2
      have ek : (k : Int) < 64 := by omega
      have eg : (g : Int) < 12 := by omega
      have HB2 := Lib.hid (hbr.trans ((below_box wr (.cells #[.int .u16 x, .int .u16 y] 36)).mono hbr.size))
      obtain ⟨F, hF⟩ : ∃ F, F = fixB (64 * (g : Int) + k) := ⟨_, rfl⟩
      rw [← hF] at hxk
      have eF : fixB ((g : Int) * 64 + k) = F := by rw [hF, Int.mul_comm]
      have K1 := Lib.hid (gFixed_is ((g : Int) * 64 + k) (by omega) F eF)
      have hxb : (x == 65535) = F := hxk
      clear hx hy hck hF eF hxk
      go_wp2
      cases F
      all_goals
        go_quiet ((go_at_call 112; exact quiet_back (K1.out _)))
        go_wp2
        go_roundw
        case rel => exact ⟨k + 1, by omega, by go_num, below_drewN' HB2.out _⟩
        case measure => simp [intOf]; omega
    · go_wp2
      go_ret
      exact ⟨rfl, hbr⟩
def XSt.cur (X : XSt) : List (List Int) := if X.wi = true then X.call else X.is
theorem XOk.curLen {X : XSt} (h : XOk X) : X.cur.length = X.is.length := by
  unfold XSt.cur; split
  · next hw => exact h.call hw
  · rfl
theorem pageS_bd {O : List (Int × Int)} (hO : O.length = 64) (hB : OwB O) (ha : allO O = true) : pagesB (pageS O) ∧ ownK (pageS O) 64 = O := by
  have e := ownK_page hB hO
  refine ⟨⟨pageS_length hO, ?_⟩, e⟩
  rw [e]
  unfold allO at ha
  rw [hO] at ha
  simpa using ha
theorem spRead_of {w : World} {P : Nat → Prop} {d p : Value} {X : XSt} {O : List (Int × Int)} {k g : Nat} (h : SInv w P d p X) (hH : Has X.cur O k) (hO : OOk O k) (hg : g < k) :
    Calls Tryz.prog 28 #[p, .int .i64 g] w fun e w' => ∃ v, e = .returned (.tuple #[v, .int .i64 0]) ∧ OwR w' w.heap.size v (grO O g) ∧ Below w.heap.size w w' := by
  have hlen : X.is.length = 64 * k := by
    obtain ⟨_, _, _, _, _, _, _, _, _, _, _, _, _, hpl, _⟩ := h
    rw [← hpl.ok.curLen]; exact hH.len
  have hlt : ∀ k, P k → k < w.heap.size := by
    obtain ⟨_, _, _, _, _, _, _, _, _, _, _, _, _, _, _, hl⟩ := h
    exact hl
  have h12 := hO.k12
  have hin := dscN_in hg
  obtain ⟨gB, gA, gX⟩ := hO.gr hg
  have gL := grO_length hO.len hg
  obtain ⟨Og, hOg⟩ : ∃ Og, Og = grO O g := ⟨_, rfl⟩
  obtain ⟨D, hD⟩ : ∃ D, D = descS (g : Int) (usedK Og 64) := ⟨_, rfl⟩
  obtain ⟨E, hE⟩ : ∃ E, E = pageS Og := ⟨_, rfl⟩
  have eD : X.cur.getD (dscN g) [] = D := by rw [hH.ds g hg, hD, hOg]
  have eE : X.cur.getD (dscN g + 1) [] = E := by rw [hH.ow g hg, hE, hOg]
  rw [← hOg] at gB gA gX gL ⊢
  obtain ⟨pB, pE⟩ := pageS_bd gL gB gA
  rw [← hE] at pB pE
  have KD : Hid (∀ W : World, Below w.heap.size w W → Calls Tryz.prog 18 #[p, .int .i64 (dscN g : Nat)] W fun e w' => ∃ v, e = .returned (.tuple #[v, .int .i64 0]) ∧ BSl w' v D ∧ Below W.heap.size W w') := Lib.hid fun W hb => (sGet_own (h.keep hb.size fun i hi => hb.block i (hlt i hi)) (n := dscN g) (by omega)).mono fun e w' ⟨v, l, a, b, c, f⟩ => ⟨v, a, by rw [← eD]; exact (c hin.2.1) ▸ b, f⟩
  have KE : Hid (∀ W : World, Below w.heap.size w W → Calls Tryz.prog 18 #[p, .int .i64 (((dscN g : Nat) : Int) + 1)] W fun e w' => ∃ v, e = .returned (.tuple #[v, .int .i64 0]) ∧ BSl w' v E ∧ Below W.heap.size W w') := Lib.hid fun W hb => (sGet_own (h.keep hb.size fun i hi => hb.block i (hlt i hi)) (n := dscN g + 1) (by omega)).mono fun e w' ⟨v, l, a, b, c, f⟩ => ⟨v, a, by rw [← eE]; exact (c hin.2.2) ▸ b, f⟩
  have KO : Hid (∀ (W : World) (v : Value), BSl W v E → Calls Tryz.prog 68 #[v] W fun e w' => ∃ u, e = .returned (.tuple #[u, .int .i64 0]) ∧ OwR w' W.heap.size u Og ∧ Below W.heap.size W w') := Lib.hid fun W v hb => (grOwn_any hb).mono fun e w' ho => by
    rcases ho with ⟨_, u, a, b, c⟩ | ⟨hn, _⟩
    · exact ⟨u, a, pE ▸ b, c⟩
    · exact absurd pB hn
  have KL := Lib.hid (fun (W : World) (v : Value) (hs : OwSl W v Og) => spLaid_is hs gL (show g < 12 by omega) gX)
  have KC : Hid (∀ (W : World) (v : Value), OwSl W v Og → Calls Tryz.prog 70 #[.int .i64 g, v] W fun e w' => ∃ u, e = .returned (.tuple #[u, .int .i64 0]) ∧ OB w' W.heap.size u D ∧ Below W.heap.size W w') := Lib.hid fun W v hs => (spDesc_is hs (g : Int) (by omega) (by omega) gA).mono fun e w' ho => by rw [hD]; exact ho
  have KEq : Hid (∀ (W : World) (u v : Value), BSl W u D → BSl W v D → Calls Tryz.prog 71 #[u, v] W fun e w' => e = .returned (.bool true) ∧ W = w') := Lib.hid fun W u v hu hv => (bEqual_of hu hv).mono fun e w' ho => by rw [decide_eq_true rfl] at ho; exact ho
  have KGd := Lib.hid (fun (W : World) => gDesc_any (g : Int) W)
  have KGo := Lib.hid (fun (W : World) => gOwners_any (g : Int) W)
  rw [dscN_I (show g < 12 by omega)] at KGd
  rw [ownN_I (show g < 12 by omega)] at KGo
  clear h hH hO eD eE hD hE hOg gB gA gX gL pB pE hin hlt hlen h12 hg
  go_enter Tryz.func28, Tryz.ntmps28
  go_wp2_with (first
    | (go_at_call 66; refine (KGd.out _).mono ?_; rintro e w' ⟨rfl, rfl⟩)
    | (go_at_call 67; refine (KGo.out _).mono ?_; rintro e w' ⟨rfl, rfl⟩)
    | (go_at_call 18; (with_reducible refine (KD.out _ (Below.refl _ _)).mono ?_); rintro e w1 ⟨vd, rfl, hvd, hb1⟩)
    | (go_at_call 18; (with_reducible refine (KE.out _ hb1).mono ?_); rintro e w2 ⟨vp, rfl, hvp, hb2⟩; have hvd2 := hvd.below hb2; have hb02 := hb1.trans (hb2.mono hb1.size))
    | (go_at_call 68; refine (KO.out _ _ hvp).mono ?_; rintro e w3 ⟨u, rfl, hu, hb3⟩; have hvd3 := hvd2.below hb3; have hb03 := hb02.trans (hb3.mono hb02.size))
    | (go_at_call 69; refine (KL.out _ _ hu.sl).mono ?_; rintro e w4 ⟨rfl, hb4⟩; have hvd4 := hvd3.below hb4; have hu4 := hu.below hb4; have hb04 := hb03.trans (hb4.mono hb03.size))
    | (go_at_call 70; refine (KC.out _ _ hu4.sl).mono ?_; rintro e w5 ⟨vw, rfl, hvw, hb5⟩; have hvd5 := hvd4.below hb5; have hu5 := hu4.below hb5; have hb05 := hb04.trans (hb5.mono hb04.size))
    | (go_at_call 71; refine (KEq.out _ _ _ hvd5 hvw.bsl).mono ?_; rintro e w6 ⟨rfl, rfl⟩))
  go_ret2
  exact ⟨u, rfl, hu5.more hb02.size, hb05⟩
end Go.Proofs.YtaakepjgpnaecaaGreat
