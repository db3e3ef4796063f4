/- Texts that the law rests on besides. -/
import Derived.Test.YtkbeencjklgcnaaGreatRows
import Derived.WalkKit
import Derived.ProofKit
import Derived.OpenShut
import Derived.ShutString
import Derived.ChangeOld
import Derived.Below
import Derived.Test.YtkbeencjklgcnaaGreatMg25

/- A call of layer 12, as its laws make one: Begin, the call, End; store and reference side by side. -/
namespace Go.Proofs.YtkbeencjklgcnaaGreat
set_option maxRecDepth 100000
open Go.RowKit
set_option linter.unusedVariables false

theorem sized12_is (x : Int) (hx : 0 ≤ x ∧ x ≤ 255) (w : World) : Calls Tryz.prog 8 #[.int .u8 x] w fun e w' => ∃ kk : Nat, (1 ≤ kk ∧ kk ≤ 12) ∧ (kk : Int) = 1 + x % 12 ∧ e = .returned (.int .i64 (64 * (kk : Int))) ∧ w = w' := by
  obtain ⟨r, hr⟩ : ∃ r : Nat, (r : Int) = x % 12 := ⟨(x % 12).toNat, by omega⟩
  have hr12 : r < 12 := by omega
  have ht : x.tmod 12 = r := by rw [Int.tmod_eq_emod_of_nonneg hx.1]; exact hr.symm
  have hr1 : (r : Int) < 12 := by omega
  have HR := Lib.hid hr
  have HT := Lib.hid ht
  clear hr
  go_enter Tryz.func8, Tryz.ntmps8
  go_wp2
  go_ret
  exact ⟨r + 1, by omega, by have := HR.out; omega, ret_i (show 64 * (1 + (r : Int)) = 64 * ((r + 1 : Nat) : Int) by omega), rfl⟩
/-- The store (outside a call) and the reference, side by side; w0: the world that the law began with. -/
structure Side (w0 w : World) (P M : Nat → Prop) (d p r : Value) (X : XSt) (n : Int) (O : List (Int × Int)) (kk : Nat) : Prop where
  inv : SInv w P d p X
  wi : X.wi = false
  fu : X.ds.fu = false
  has : Has X.is O kk
  ok : OOk O kk
  sp : RSp w M r n O
  pN : ∀ x, P x → w0.heap.size ≤ x
  mN : ∀ x, M x → w0.heap.size ≤ x
  ap : ∀ x, M x → ¬ P x
  be : Below w0.heap.size w0 w
def PM (P M : Nat → Prop) (k : Nat) : Prop := P k ∨ M k
theorem Chg.pm {w w' : World} {P P' : Nat → Prop} (h : Chg P P' w w') (M : Nat → Prop) : Chg (PM P M) (PM P' M) w w' := ⟨h.os, h.tape, h.output, h.size, fun k hk hn => ⟨(h.keep k hk fun e => hn (.inl e)).1, fun e => e.elim (fun e => (h.keep k hk fun e => hn (.inl e)).2 e) fun e => hn (.inr e)⟩⟩
theorem Chg.mp {w w' : World} {M : Nat → Prop} (h : Chg M M w w') (P : Nat → Prop) : Chg (PM P M) (PM P M) w w' := ⟨h.os, h.tape, h.output, h.size, fun k hk hn => ⟨(h.keep k hk fun e => hn (.inr e)).1, hn⟩⟩
/-- .. within a call of which nothing is put. -/
def callX (X : XSt) : XSt := { X with call := X.is, put := [], wi := true }
theorem RSp.chg {w w' : World} {P P' M : Nat → Prop} {r : Value} {n : Int} {O : List (Int × Int)} (h : RSp w M r n O) (hc : Chg P P' w w') (ha : ∀ x, M x → ¬ P x) : RSp w' M r n O ∧ ∀ x, M x → ¬ P' x := by
  obtain ⟨b, v, e, hr, ho, hM⟩ := h
  have hk : ∀ x, M x → w'.heap[x]? = w.heap[x]? ∧ ¬ P' x := fun x hx => hc.keep x (RSp.lt ⟨b, v, e, hr, ho, hM⟩ hx) (ha x hx)
  exact ⟨⟨b, v, e, (hk b ((hM b).2 (.inl rfl))).1.trans hr, ⟨ho.1, ownsRow_keep ho.2 fun g hg => (hk g ((hM g).2 (.inr hg))).1⟩, hM⟩, fun x hx => (hk x hx).2⟩
/-- The same, within a call: X its state. -/
structure Mid (w0 w : World) (P M : Nat → Prop) (d p r : Value) (X : XSt) (n : Int) (O O2 : List (Int × Int)) (kk : Nat) : Prop where
  inv : SInv w P d p X
  wi : X.wi = true
  fu : X.ds.fu = false
  has : Has X.is O kk
  has2 : Has X.call O2 kk
  ok : OOk O kk
  pN : ∀ x, P x → w0.heap.size ≤ x
  mN : ∀ x, M x → w0.heap.size ≤ x
  ap : ∀ x, M x → ¬ P x
  sz : w0.heap.size ≤ w.heap.size
  be : Below w0.heap.size w0 w
section
variable {w0 w : World} {P M : Nat → Prop} {d p r : Value} {X : XSt} {n : Int} {O O2 : List (Int × Int)} {kk : Nat}
theorem chg_base {P' : Nat → Prop} {w' : World} (hb : Below w0.heap.size w0 w) (hP : ∀ x, P x → w0.heap.size ≤ x) (hc : Chg P P' w w') : Below w0.heap.size w0 w' ∧ ∀ x, P' x → w0.heap.size ≤ x := by
  have hs := hb.size
  refine ⟨hb.trans (hc.below fun x hx => ⟨by omega, fun hp => by have := hP x hp; omega⟩), fun x hx => ?_⟩
  rcases chg_new hc hx with h | h
  · exact hP x h
  · omega
theorem Side.begin (h : Side w0 w P M d p r X n O kk) : Calls Tryz.prog 14 #[p] w fun e w' => e = .returned (.int .i64 0) ∧ ∃ P', Mid w0 w' P' M d p r (callX X) n O O kk ∧ RSp w' M r n O ∧ Chg (PM P M) (PM P' M) w w' := by
  refine (landed.begin h.inv).mono fun e w' ⟨he, P', hi, hc⟩ => ?_
  have e1 : xBegin X = (0, callX X) := by unfold xBegin; rw [if_neg (by rw [h.wi]; decide)]; rfl
  rw [e1] at he hi
  obtain ⟨hs, ha⟩ := h.sp.chg hc h.ap
  obtain ⟨hb, hp⟩ := chg_base h.be h.pN hc
  exact ⟨he, P', ⟨hi, rfl, h.fu, h.has, h.has, h.ok, hp, h.mN, ha, hb.size, hb⟩, hs, hc.pm M⟩
/-- End: kept. -/
theorem Mid.keep (h : Mid w0 w P M d p r X n O O2 kk) (hO : OOk O2 kk) (hs : RSp w M r n O2) : Calls Tryz.prog 17 #[p, .bool true] w fun e w' => e = .returned (.int .i64 0) ∧ ∃ P' X', Side w0 w' P' M d p r X' n O2 kk ∧ Chg (PM P M) (PM P' M) w w' := by
  refine (landed.endKeep h.inv h.wi).mono fun e w' he => ?_
  rcases he with ⟨B, dt, ds', _, hfu, he, P', hi, hc⟩ | ⟨hf, _⟩
  · obtain ⟨hs', ha⟩ := hs.chg hc h.ap
    obtain ⟨hb, hp⟩ := chg_base h.be h.pN hc
    exact ⟨he, P', _, ⟨hi, rfl, by show ds'.fu = false; rw [hfu]; exact h.fu, h.has2, hO, hs', hp, h.mN, ha, hb⟩, hc.pm M⟩
  · rw [h.fu] at hf; cases hf
/-- End: undone. -/
theorem Mid.undo (h : Mid w0 w P M d p r X n O O2 kk) (hs : RSp w M r n O) : Calls Tryz.prog 17 #[p, .bool false] w fun e w' => e = .returned (.int .i64 0) ∧ ∃ P' X', Side w0 w' P' M d p r X' n O kk ∧ Chg (PM P M) (PM P' M) w w' := by
  refine (landed.endUndo h.inv h.wi).mono fun e w' ⟨he, P', hi, hc⟩ => ?_
  obtain ⟨hs', ha⟩ := hs.chg hc h.ap
  obtain ⟨hb, hp⟩ := chg_base h.be h.pN hc
  exact ⟨he, P', _, ⟨hi, rfl, h.fu, h.has, h.ok, hs', hp, h.mN, ha, hb⟩, hc.pm M⟩
theorem Mid.low (h : Mid w0 w P M d p r X n O O2 kk) {w' : World} (hb : Below w.heap.size w w') : Mid w0 w' P M d p r X n O O2 kk :=
  { h with inv := h.inv.low hb, sz := Nat.le_trans h.sz hb.size, be := h.be.trans (hb.mono h.sz) }
/-- Behind a change of the reference's own. -/
theorem Mid.ref (h : Mid w0 w P M d p r X n O O2 kk) {w' : World} (hc : Chg M M w w') : Mid w0 w' P M d p r X n O O2 kk := by
  have hlt := h.inv.lt
  refine { h with inv := h.inv.keep hc.size fun x hx => (hc.keep x (hlt x hx) fun hm => h.ap x hm hx).1, sz := Nat.le_trans h.sz hc.size, be := h.be.trans (hc.below fun x hx => ⟨Nat.lt_of_lt_of_le hx h.sz, fun hm => by have := h.mN x hm; omega⟩) }
/-- Behind a change of the store's. -/
theorem Mid.put {X2 : XSt} {P2 : Nat → Prop} {w' : World} {O3 : List (Int × Int)} (h : Mid w0 w P M d p r X n O O2 kk) (hi : SInv w' P2 d p X2) (hc : Chg P P2 w w') (hw : X2.wi = true) (hf : X2.ds.fu = X.ds.fu) (his : X2.is = X.is) (hh : Has X2.call O3 kk) (hs : RSp w M r n O2) : Mid w0 w' P2 M d p r X2 n O O3 kk ∧ RSp w' M r n O2 := by
  obtain ⟨hs', ha⟩ := hs.chg hc h.ap
  obtain ⟨hb, hp⟩ := chg_base h.be h.pN hc
  exact ⟨⟨hi, hw, by rw [hf]; exact h.fu, by rw [his]; exact h.has, hh, h.ok, hp, h.mN, ha, hb.size, hb⟩, hs'⟩
end
end Go.Proofs.YtkbeencjklgcnaaGreat

/- Calls of layer 12 that change something, on both sides. -/
namespace Go.Proofs.YtkbeencjklgcnaaGreat
set_option maxRecDepth 100000
open Go.RowKit
set_option linter.unusedVariables false

/-- What the landed call hands back within a call, and what the reference's then does. -/
structure Both (O O2 : List (Int × Int)) (kk : Nat) (F Fr : FuncId) (xs : List Value) (e : Ending) : Prop where
  land : ∀ {w0 w P M d p r X n}, Mid w0 w P M d p r (callX X) n O O kk → RSp w M r n O → Calls Tryz.prog F (p :: xs).toArray w fun e' w' => e' = e ∧ ∃ P' X', Mid w0 w' P' M d p r X' n O O2 kk ∧ RSp w' M r n O ∧ Chg (PM P M) (PM P' M) w w'
  refe : ∀ {w0 w P M d p r X n}, Mid w0 w P M d p r X n O O2 kk → RSp w M r n O → Calls Tryz.prog Fr (r :: xs).toArray w fun e' w' => e' = e ∧ Mid w0 w' P M d p r X n O O2 kk ∧ RSp w' M r n O2 ∧ Chg (PM P M) (PM P M) w w'
theorem callX_cur {X : XSt} {O : List (Int × Int)} {kk : Nat} (h : Has (callX X).call O kk) : Has (callX X).cur O kk := h
section
variable {O : List (Int × Int)} {kk : Nat}
theorem bothLow {F Fr : FuncId} {xs : List Value} {e : Ending} (h1 : ∀ {w0 w P M d p r X n}, Mid w0 w P M d p r (callX X) n O O kk → Calls Tryz.prog F (p :: xs).toArray w fun e' w' => e' = e ∧ Below w.heap.size w w')
    (h2 : ∀ {w M r n}, RSp w M r n O → Calls Tryz.prog Fr (r :: xs).toArray w fun e' w' => e' = e ∧ Below w.heap.size w w') : Both O O kk F Fr xs e :=
  ⟨fun hm hs => (h1 hm).mono fun e' w' ⟨he, hb⟩ => ⟨he, _, _, hm.low hb, hs.below hb, Chg.of_below hb⟩, fun hm hs => (h2 hs).mono fun e' w' ⟨he, hb⟩ => ⟨he, hm.low hb, hs.below hb, Chg.of_below hb⟩⟩
theorem bothPut {F Fr : FuncId} {xs : List Value} {e : Ending} {f : Nat} {o : Int × Int} (hf : f < 64 * kk)
    (h1 : ∀ {w0 w P M d p r X n}, Mid w0 w P M d p r (callX X) n O O kk → Calls Tryz.prog F (p :: xs).toArray w fun e' w' => e' = e ∧ ∃ P', SInv w' P' d p (putX (callX X) (f / 64) (grO (O.set f o) (f / 64))) ∧ Chg P P' w w')
    (h2 : ∀ {w M r n}, RSp w M r n O → Calls Tryz.prog Fr (r :: xs).toArray w fun e' w' => e' = e ∧ RSp w' M r n (O.set f o) ∧ Chg M M w w') : Both O (O.set f o) kk F Fr xs e :=
  ⟨fun hm hs => (h1 hm).mono fun e' w' ⟨he, P', hi, hc⟩ => by
      obtain ⟨a, b⟩ := hm.put hi hc rfl rfl rfl (hm.has2.put hf o) hs
      exact ⟨he, P', _, a, b, hc.pm _⟩,
    fun hm hs => (h2 hs).mono fun e' w' ⟨he, hs', hc⟩ => ⟨he, hm.ref hc, hs', hc.mp _⟩⟩
theorem take_bad {b l g i j : Int} (hb : b ≤ 9223372036854775807) (hl : l ≤ 9223372036854775807) (hi : 0 ≤ i ∧ i ≤ 65535) (hj : 0 ≤ j ∧ j ≤ 65535) (hno : takeNo b l i j) :
    Both O O kk 15 16 [.int .i64 b, .int .i64 l, .int .i64 g, .agg #[.int .u16 i, .int .u16 j]] (.returned (.tuple #[.int .i64 0, .int .i64 1])) :=
  bothLow (fun hm => spTake_no hb hl hi hj hno _ _) (fun hs => rSpTake_no hb hl hi hj hno _ _)
theorem take_full12 (hO : OOk O kk) {a m : Nat} (hm1 : 1 ≤ m) (hma : m ≤ a) (hak : a ≤ kk) (g : Int) {i j : Int} (hi : 0 ≤ i ∧ i ≤ 65535) (hj : 0 ≤ j ∧ j ≤ 65535) (hf : frmO i j = true) (h0 : i ≠ 0) (h6 : i ≠ 65535) (hc : 62 * (m : Int) - 42 ≤ cntU O (64 * a)) :
    Both O O kk 15 16 [.int .i64 (64 * (a : Int)), .int .i64 (64 * (m : Int)), .int .i64 g, .agg #[.int .u16 i, .int .u16 j]] (.returned (.tuple #[.int .i64 0, .int .i64 13])) :=
  bothLow (fun hm => spTake_full hm.inv (callX_cur hm.has2) hO hm1 hma hak g hi hj hf h0 h6 hc) (fun hs => rSpTake_full hs hO hm1 hma hak g hi hj hf h0 h6 hc)
theorem take_yes12 (hO : OOk O kk) {a m : Nat} (hm1 : 1 ≤ m) (hma : m ≤ a) (hak : a ≤ kk) (g : Int) {i j : Int} (hi : 0 ≤ i ∧ i ≤ 65535) (hj : 0 ≤ j ∧ j ≤ 65535) (hf : frmO i j = true) (h0 : i ≠ 0) (h6 : i ≠ 65535) {f : Nat}
    (hc : (cntU O (64 * a) : Int) < 62 * (m : Int) - 42) (hfm : f < 64 * m) (hfs : findS O (64 * m) (goalS (64 * m) g) = f) (hfx : fixB (f : Int) = false) :
    Both O (O.set f (i, j)) kk 15 16 [.int .i64 (64 * (a : Int)), .int .i64 (64 * (m : Int)), .int .i64 g, .agg #[.int .u16 i, .int .u16 j]] (.returned (.tuple #[.int .i64 f, .int .i64 0])) :=
  bothPut (by omega) (fun hm => spTake_yes hm.inv rfl rfl hm.has2 hO hm1 hma hak g hi hj hf h0 h6 hc hfm hfs hfx) (fun hs => rSpTake_yes hs hO hm1 hma hak g hi hj hf h0 h6 hc hfm hfs)
/-- Whatever Take is asked. -/
theorem take12 (hO : OOk O kk) {b l g i j : Int} (hb : b ≤ 64 * (kk : Int)) (hl : l ≤ 64 * (kk : Int)) (hi : 0 ≤ i ∧ i ≤ 65535) (hj : 0 ≤ j ∧ j ≤ 65535) :
    ∃ (x E : Int) (O2 : List (Int × Int)), OOk O2 kk ∧ (E = 0 ∨ (E ≠ 0 ∧ O2 = O)) ∧ Both O O2 kk 15 16 [.int .i64 b, .int .i64 l, .int .i64 g, .agg #[.int .u16 i, .int .u16 j]] (.returned (.tuple #[.int .i64 x, .int .i64 E])) := by
  have h12 := hO.k12
  by_cases hno : takeNo b l i j
  · exact ⟨0, 1, O, hO, .inr ⟨by decide, rfl⟩, take_bad (by omega) (by omega) hi hj hno⟩
  · have h1 : frmB b = true := by cases h : frmB b; · exact absurd (.inl h) hno
                                  · rfl
    have h2 : frmB l = true := by cases h : frmB l; · exact absurd (.inr (.inl h)) hno
                                  · rfl
    have h3 : ¬ b < l := fun h => hno (.inr (.inr (.inl h)))
    have h4 : frmO i j = true := by cases h : frmO i j; · exact absurd (.inr (.inr (.inr (.inl h)))) hno
                                    · rfl
    have h5 : i ≠ 0 := fun h => hno (.inr (.inr (.inr (.inr (.inl h)))))
    have h6 : i ≠ 65535 := fun h => hno (.inr (.inr (.inr (.inr (.inr h)))))
    obtain ⟨a, a1, _, rfl⟩ := frm_yes h1
    obtain ⟨m, m1, _, rfl⟩ := frm_yes h2
    by_cases hc : 62 * (m : Int) - 42 ≤ cntU O (64 * a)
    · exact ⟨0, 13, O, hO, .inr ⟨by decide, rfl⟩, take_full12 hO m1 (by omega) (by omega) g hi hj h4 h5 h6 hc⟩
    · have hmono := cntU_mono O (show 64 * m ≤ 64 * a by omega)
      obtain ⟨f, f1, f2, f3, f4⟩ := find_free hO m1 (by omega) (g := goalS (64 * m) g) (by unfold goalS; split <;> omega) (by omega)
      exact ⟨f, 0, _, hO.set (by omega) f4 hi hj h4 h6, .inl rfl, take_yes12 hO m1 (by omega) (by omega) g hi hj h4 h5 h6 (by omega) f1 f2 f4⟩
theorem open_no {n : Int} (h : openN n = false) : n < 0 ∨ 768 ≤ n ∨ fixB n = true := by
  unfold openN at h
  by_cases h1 : 0 ≤ n ∧ n < 768
  · rw [decide_eq_true h1] at h
    exact .inr (.inr (by simpa using h))
  · omega
theorem open_yes {n : Int} (h : openN n = true) : 0 ≤ n ∧ n < 768 ∧ fixB n = false := by
  unfold openN at h
  rw [Bool.and_eq_true, decide_eq_true_eq, Bool.not_eq_true'] at h
  exact ⟨h.1.1, h.1.2, h.2⟩
theorem give12 (hO : OOk O kk) {n : Int} (hn : in64 n) (hk : n ≤ 64 * (kk : Int) - 1) :
    ∃ (E : Int) (O2 : List (Int × Int)), OOk O2 kk ∧ (E = 0 ∨ (E ≠ 0 ∧ O2 = O)) ∧ Both O O2 kk 23 30 [.int .i64 n] (.returned (.int .i64 E)) := by
  have hl := hO.len
  have h1 := hO.k1
  have h12 := hO.k12
  cases ho : openN n
  · refine ⟨1, O, hO, .inr ⟨by decide, rfl⟩, bothLow (fun hm => (spGive_far hn.2 ho _ _).mono fun e w' ⟨he, hw⟩ => ⟨he, by rw [← hw]; exact Below.refl _ _⟩) (fun hs => (rSpGive_no hs (by omega) (by omega) hn ?_).mono fun e w' ⟨he, hw⟩ => ⟨he, by rw [← hw]; exact Below.refl _ _⟩)⟩
    rcases open_no ho with h | h | h
    · exact .inl h
    · omega
    · exact .inr (.inr (.inl h))
  · obtain ⟨p1, p2, p3⟩ := open_yes ho
    obtain ⟨m, rfl⟩ : ∃ m : Nat, n = m := ⟨n.toNat, by omega⟩
    cases hf : freeJ O m
    · exact ⟨0, _, hO.set (by omega) p3 (by decide) (by decide) (by decide) (by decide), .inl rfl, bothPut (by omega) (fun hm => spGive_yes hm.inv rfl rfl hm.has2 hO (by omega) p3 hf) (fun hs => rSpGive_yes hs (by omega) (by omega) p3 hf)⟩
    · exact ⟨1, O, hO, .inr ⟨by decide, rfl⟩, bothLow (fun hm => spGive_free hm.inv (callX_cur hm.has2) hO (by omega) hf) (fun hs => (rSpGive_no hs (by omega) (by omega) hn (.inr (.inr (.inr (by rw [Int.toNat_natCast]; exact hf))))).mono fun e w' ⟨he, hw⟩ => ⟨he, by rw [← hw]; exact Below.refl _ _⟩)⟩
theorem set12 (hO : OOk O kk) {n i j : Int} (hn : in64 n) (hk : n ≤ 64 * (kk : Int) - 1) (hi : 0 ≤ i ∧ i ≤ 65535) (hj : 0 ≤ j ∧ j ≤ 65535) :
    ∃ (E : Int) (O2 : List (Int × Int)), OOk O2 kk ∧ (E = 0 ∨ (E ≠ 0 ∧ O2 = O)) ∧ Both O O2 kk 22 31 [.int .i64 n, .agg #[.int .u16 i, .int .u16 j]] (.returned (.int .i64 E)) := by
  have hl := hO.len
  have h1 := hO.k1
  have h12 := hO.k12
  by_cases hno : openN n = false ∨ frmO i j = false ∨ i = 65535
  · refine ⟨1, O, hO, .inr ⟨by decide, rfl⟩, bothLow (fun hm => spSet_no hn.2 hi hj hno _ _) (fun hs => rSpSet_no hs (by omega) (by omega) hn hi hj ?_)⟩
    rcases hno with h | h | h
    · rcases open_no h with h | h | h
      · exact .inl h
      · omega
      · exact .inr (.inr (.inl h))
    · exact .inr (.inr (.inr (.inl h)))
    · exact .inr (.inr (.inr (.inr h)))
  · have ho : openN n = true := by cases h : openN n; · exact absurd (.inl h) hno
                                   · rfl
    have hf : frmO i j = true := by cases h : frmO i j; · exact absurd (.inr (.inl h)) hno
                                    · rfl
    have h6 : i ≠ 65535 := fun h => hno (.inr (.inr h))
    obtain ⟨p1, p2, p3⟩ := open_yes ho
    obtain ⟨m, rfl⟩ : ∃ m : Nat, n = m := ⟨n.toNat, by omega⟩
    exact ⟨0, _, hO.set (by omega) p3 hi hj hf h6, .inl rfl, bothPut (by omega) (fun hm => spSet_yes hm.inv rfl rfl hm.has2 hO (by omega) p3 hi hj hf h6) (fun hs => rSpSet_yes hs (by omega) (by omega) p3 hi hj hf h6)⟩
end
end Go.Proofs.YtkbeencjklgcnaaGreat

/- The law SpaceFills: just as many blocks can be taken as there is room for. -/
namespace Go.Proofs.YtkbeencjklgcnaaGreat
set_option maxRecDepth 100000
open Go.RowKit
set_option linter.unusedVariables false

theorem cntU_set_lt (O : List (Int × Int)) (f : Nat) (o : Int × Int) : ∀ L, L ≤ f → cntU (O.set f o) L = cntU O L
  | 0, _ => rfl
  | L + 1, h => by
    have ih := cntU_set_lt O f o L (by omega)
    have e : freeJ (O.set f o) L = freeJ O L := by unfold freeJ; rw [List.getD_eq_getElem?_getD, List.getElem?_set_ne (by omega), ← List.getD_eq_getElem?_getD]
    unfold cntU
    rw [ih, e]
/-- A free open block more is used. -/
theorem cntU_set {O : List (Int × Int)} {f : Nat} {i j : Int} (hfl : f < O.length) (hf : freeJ O f = true) (hx : fixB (f : Int) = false) (h0 : i ≠ 0) : ∀ L, f < L → cntU (O.set f (i, j)) L = cntU O L + 1
  | 0, h => absurd h (Nat.not_lt_zero _)
  | L + 1, h => by
    by_cases e : L = f
    · subst e
      have h1 := cntU_set_lt O L (i, j) L (Nat.le_refl _)
      have h2 : freeJ (O.set L (i, j)) L = false := by unfold freeJ; rw [BM.getD_set _ _ _ _ _ hfl, if_pos rfl]; exact decide_eq_false h0
      unfold cntU
      rw [h1, h2, hf, hx]; simp
    · have ih := cntU_set (j := j) hfl hf hx h0 L (by omega)
      have h2 : freeJ (O.set f (i, j)) L = freeJ O L := by unfold freeJ; rw [List.getD_eq_getElem?_getD, List.getElem?_set_ne (by omega), ← List.getD_eq_getElem?_getD]
      unfold cntU
      rw [ih, h2]; omega
theorem cnt_new : ∀ kk, kk < 5 → 1 ≤ kk → cntU (newO kk) (64 * kk) = 6 := by decide +kernel
/-- The reference's Used, outside a call. -/
theorem Side.used {w0 w : World} {P M : Nat → Prop} {d p r : Value} {X : XSt} {n : Int} {O : List (Int × Int)} {kk : Nat} (h : Side w0 w P M d p r X n O kk) :
    Calls Tryz.prog 18 #[p, .int .i64 (64 * (kk : Int))] w (fun e w' => e = .returned (.tuple #[.int .i64 (cntU O (64 * kk)), .int .i64 0]) ∧ Below w.heap.size w w') ∧
      ∀ W, Below w.heap.size w W → Calls Tryz.prog 19 #[r, .int .i64 (64 * (kk : Int))] W fun e w' => e = .returned (.tuple #[.int .i64 (cntU O (64 * kk)), .int .i64 0]) ∧ W = w' := by
  have hcur : Has X.cur O kk := by unfold XSt.cur; rw [h.wi]; exact h.has
  have h1 := h.ok.k1
  have h12 := h.ok.k12
  have hl := h.ok.len
  refine ⟨spUsed_yes h.inv hcur h.ok h1 (Nat.le_refl _), fun W hb => ?_⟩
  have := rSpUsed_yes (h.sp.below hb) (L := 64 * kk) (by rw [show ((64 * kk : Nat) : Int) = 64 * (kk : Int) by omega]; exact frm_mk kk h1 h12) (by omega) (by omega) (by omega)
  rw [show ((64 * kk : Nat) : Int) = 64 * (kk : Int) by omega] at this
  exact this
/-- A law's start: a new file system, and a Space of the reference's. -/
theorem start12 {kk : Nat} (h1 : 1 ≤ kk) (h2 : kk ≤ 12) (w0 : World) : ∀ {w : World}, Below w0.heap.size w0 w → Calls Tryz.prog 9 #[.int .i64 (64 * (kk : Int)), .int .i64 (64 * (kk : Int))] w fun e w' => ∃ b, e = .returned (.pointer (some ⟨b, 0, none⟩)) ∧ Below w0.heap.size w0 w' ∧
    ∀ {W : World}, Below w'.heap.size w' W → Calls Tryz.prog 10 #[.int .i64 (64 * (kk : Int))] W fun e w'' => ∃ br P M d X, e = .returned (.pointer (some ⟨br, 0, none⟩)) ∧ Side w0 w'' P M d (.pointer (some ⟨b, 0, none⟩)) (.pointer (some ⟨br, 0, none⟩)) X (64 * (kk : Int)) (newO kk) kk := fun {w} hb => by
  refine (laid12_is h1 h2 w).mono fun e w' ⟨b, P, d, G, ds, he, hI, hfu, hH, hP, hb1⟩ => ⟨b, he, hb.trans (hb1.mono hb.size), fun {W} hbW => ?_⟩
  refine (rSpNew_at h1 h2 W).mono fun e w'' ⟨br, g, cap, M, he2, hR, _, _, _, hM, _, _, _, _, hb2⟩ => ?_
  have hs := hb.size
  have hs1 := hb1.size
  have hsW := hbW.size
  have hlt := hI.lt
  have hI2 := (hI.low hbW).low hb2
  refine ⟨br, P, M, d, _, he2, ⟨hI2, rfl, hfu, hH, newO_ok h1 h2, hR, fun x hx => by have := hP x hx; omega, fun x hx => by have := hM x hx; omega, fun x hm hp => by have := hM x hm; have := hlt x hp; omega, ?_⟩⟩
  exact ((hb.trans (hb1.mono hs)).trans (hbW.mono (by omega))).trans (hb2.mono (by omega))
/-- Not such an owner: the law says what awake says. -/
theorem lSpF_no {w : World} (gr li goal : Int) {i j : Int} (hi : 0 ≤ i ∧ i ≤ 65535) (hj : 0 ≤ j ∧ j ≤ 65535) (hno : frmO i j = false ∨ i = 0 ∨ i = 65535) : Calls Tryz.prog 4 #[.int .u8 gr, .int .u8 li, .int .i64 goal, .agg #[.int .u16 i, .int .u16 j]] w fun e w' => e = .returned (.bool true) ∧ Below w.heap.size w w' := by
  have KA := Lib.hid awake12_any
  have KA1 := Lib.hid (awake12_any (w.alloc (.cells #[.int .u16 i, .int .u16 j] 32)))
  have HB1 := Lib.hid (below_box w (.cells #[.int .u16 i, .int .u16 j] 32))
  have HR := Lib.hid (fun (W : World) (hb : Below (w.alloc (.cells #[.int .u16 i, .int .u16 j] 32)).heap.size (w.alloc (.cells #[.int .u16 i, .int .u16 j] 32)) W) => show W.cell? ⟨w.heap.size, 0, none⟩ = some (.int .u16 i) ∧ W.cell? ⟨w.heap.size, 1, none⟩ = some (.int .u16 j) from ⟨cell_of_row _ _ _ _ _ _ (below_hold (heap_alloc_new w _) hb), cell_of_row _ _ _ _ _ _ (below_hold (heap_alloc_new w _) hb)⟩)
  cases hf : frmO i j
  · have KF := Lib.hid (rrForm_is i j hi hj false hf)
    clear hno hf
    go_enter Tryz.func4, Tryz.ntmps4
    go_wp2_with (first
      | (go_at_call 7; (with_reducible refine KA1.out.mono ?_); rintro e w2 ⟨rfl, hb2⟩; obtain ⟨x0, x1⟩ := HR.out _ hb2)
      | (go_at_call 13; refine (KF.out _).mono ?_; rintro e w3 ⟨rfl, hb3⟩; have hb13 := hb2.trans (hb3.mono hb2.size); obtain ⟨y0, y1⟩ := HR.out _ hb13)
      | (go_at_call 7; refine (KA.out _).mono ?_; rintro e w4 ⟨rfl, hb4⟩))
    go_ret
    exact ⟨rfl, (HB1.out.trans (hb13.mono HB1.out.size)).trans (hb4.mono (Nat.le_trans HB1.out.size hb13.size))⟩
  · have KF := Lib.hid (rrForm_is i j hi hj true hf)
    have hor : i = 0 ∨ i = 65535 := hno.resolve_left (by rw [hf]; decide)
    clear hno hf
    rcases hor with rfl | rfl
    all_goals
      go_enter Tryz.func4, Tryz.ntmps4
      go_wp2_with (first
        | (go_at_call 7; (with_reducible refine KA1.out.mono ?_); rintro e w2 ⟨rfl, hb2⟩; obtain ⟨x0, x1⟩ := HR.out _ hb2)
        | (go_at_call 13; refine (KF.out _).mono ?_; rintro e w3 ⟨rfl, hb3⟩; have hb13 := hb2.trans (hb3.mono hb2.size); obtain ⟨y0, y1⟩ := HR.out _ hb13)
        | (go_at_call 7; refine (KA.out _).mono ?_; rintro e w4 ⟨rfl, hb4⟩))
      go_ret
      exact ⟨rfl, (HB1.out.trans (hb13.mono HB1.out.size)).trans (hb4.mono (Nat.le_trans HB1.out.size hb13.size))⟩
end Go.Proofs.YtkbeencjklgcnaaGreat

/- The law SpaceFills: an owner that is well formed. -/
namespace Go.Proofs.YtkbeencjklgcnaaGreat
set_option maxRecDepth 100000
open Go.RowKit
set_option linter.unusedVariables false

set_option maxHeartbeats 2000000 in
theorem lSpF_yes {w : World} {gr li : Int} (hgr : 0 ≤ gr ∧ gr ≤ 255) (hli : 0 ≤ li ∧ li ≤ 255) (goal : Int) {i j : Int} (hi : 0 ≤ i ∧ i ≤ 65535) (hj : 0 ≤ j ∧ j ≤ 65535) (hf : frmO i j = true) (h0 : i ≠ 0) (h6 : i ≠ 65535) : Calls Tryz.prog 4 #[.int .u8 gr, .int .u8 li, .int .i64 goal, .agg #[.int .u16 i, .int .u16 j]] w fun e w' => e = .returned (.bool true) ∧ Below w.heap.size w w' := by
  obtain ⟨W1, hW1⟩ : ∃ W1, W1 = w.alloc (.cells #[.int .u16 i, .int .u16 j] 32) := ⟨_, rfl⟩
  have HB1 : Hid (Below w.heap.size w W1) := Lib.hid (by rw [hW1]; exact below_box w _)
  have hnx : W1.heap[w.heap.size]? = some (.cells #[.int .u16 i, .int .u16 j] 32 (0, 0)) := by rw [hW1]; exact heap_alloc_new w _
  obtain ⟨xb, hxb⟩ : ∃ xb, xb = w.heap.size := ⟨_, rfl⟩
  have HXB := Lib.hid hxb
  rw [← hxb] at hnx
  have HR : Hid (∀ W, Below W1.heap.size W1 W → W.cell? ⟨xb, 0, none⟩ = some (.int .u16 i) ∧ W.cell? ⟨xb, 1, none⟩ = some (.int .u16 j)) := Lib.hid fun W hb => ⟨cell_of_row _ _ _ _ _ _ (below_hold hnx hb), cell_of_row _ _ _ _ _ _ (below_hold hnx hb)⟩
  have HW1 := Lib.hid hW1.symm
  have KA := Lib.hid (awake12_any W1)
  have KF := Lib.hid (rrForm_is i j hi hj true hf)
  obtain ⟨q, hq⟩ : ∃ q : Nat, gr.tmod 4 = q := ⟨(gr % 4).toNat, by rw [Int.tmod_eq_emod_of_nonneg hgr.1]; omega⟩
  have hq4 : q < 4 := by rw [Int.tmod_eq_emod_of_nonneg hgr.1] at hq; omega
  obtain ⟨kk, hkk⟩ : ∃ kk, kk = q + 1 := ⟨_, rfl⟩
  have k1 : 1 ≤ kk := by omega
  have k5 : kk < 5 := by omega
  have k12 : kk ≤ 12 := by omega
  have KZ : Hid (∀ W : World, Calls Tryz.prog 8 #[.int .u8 q] W fun e w' => e = .returned (.int .i64 (64 * (kk : Int))) ∧ W = w') := Lib.hid fun W => (sized12_is (q : Int) (by omega) W).mono fun e w' ⟨k2, _, h2, h3, h4⟩ => ⟨by rw [h3]; exact ret_i (by omega), h4⟩
  obtain ⟨r, hr⟩ : ∃ r : Nat, li.tmod (kk : Int) = r := ⟨(li % (kk : Int)).toNat, by rw [Int.tmod_eq_emod_of_nonneg hli.1]; have := Int.emod_nonneg li (show (kk : Int) ≠ 0 by omega); omega⟩
  have hrk : r < kk := by rw [Int.tmod_eq_emod_of_nonneg hli.1] at hr; have := Int.emod_lt_of_pos li (show (0 : Int) < kk by omega); omega
  have hdv : (64 * (kk : Int)).tdiv 64 = kk := by rw [Int.tdiv_eq_ediv_of_nonneg (by omega)]; omega
  have hkz : (kk : Int) ≠ 0 := by omega
  have hrb : (r : Int) < 5 := by omega
  have hkb : (kk : Int) < 5 := by omega
  have hk1 : (1 : Int) ≤ kk := by omega
  have HM : Hid (((r + 1 : Nat) : Int) = 1 + (r : Int)) := Lib.hid (by omega)
  have HK := Lib.hid (And.intro k1 (And.intro k12 (And.intro hrk (cnt_new kk k5 k1))))
  have KS := Lib.hid (fun (W : World) (hb : Below W1.heap.size W1 W) => start12 k1 k12 W1 hb)
  have HO := Lib.hid (And.intro hi (And.intro hj (And.intro hf (And.intro h0 h6))))
  have e6 : (i == 65535) = false := by simpa using h6
  have e0 : (i == 0) = false := by simpa using h0
  clear hW1 hnx hkk hgr hi hj hf h0 h6 hxb hq4 k1 k5 k12 hrk
  go_enter Tryz.func4, Tryz.ntmps4
  go_upto_region 1 with (fail)
  rw [HW1.out]
  rw [← HXB.out]
  go_wp2_with (first
    | (go_at_call 7; refine KA.out.mono ?_; rintro e w2 ⟨rfl, hb2⟩; obtain ⟨x20, x21⟩ := HR.out _ hb2)
    | (go_at_call 13; refine (KF.out _).mono ?_; rintro e w3 ⟨rfl, hb3⟩; have hb13 := hb2.trans (hb3.mono hb2.size); obtain ⟨x30, x31⟩ := HR.out _ hb13)
    | (go_at_call 8; refine (KZ.out _).mono ?_; rintro e w' ⟨rfl, rfl⟩)
    | (go_at_call 9; refine (KS.out _ hb13).mono ?_; rintro e w4 ⟨b, rfl, hb4, KN⟩)
    | (go_at_call 10; refine (KN (Below.refl _ _)).mono ?_; rintro e w5 ⟨br, P5, M5, d5, X5, rfl, hsd⟩))
  have HS0 : Hid (∃ P M d X O, Side W1 w5 P M d (.pointer (some ⟨b, 0, none⟩)) (.pointer (some ⟨br, 0, none⟩)) X (64 * (kk : Int)) O kk ∧ cntU O (64 * kk) = 6 + 0 ∧ (6 : Int) + ((0 : Nat) : Int) ≤ 62 * (1 + (r : Int)) - 42) := Lib.hid ⟨P5, M5, d5, X5, _, hsd, HK.out.2.2.2, by omega⟩
  clear hsd x20 x21 x30 x31 hb2 hb3 hb13 hb4 KN
  go_loopw [57] (fun t WI => ∃ c : Nat, c ≤ 64 * kk ∧ t = .int .i64 c ∧ Hid (∃ P M d X O, Side W1 WI P M d (.pointer (some ⟨b, 0, none⟩)) (.pointer (some ⟨br, 0, none⟩)) X (64 * (kk : Int)) O kk ∧ cntU O (64 * kk) = 6 + c ∧ (6 : Int) + (c : Int) ≤ 62 * (1 + (r : Int)) - 42)) (fun t _ => 64 * kk - (intOf t).toNat)
  case atStart => exact ⟨0, by omega, rfl, HS0⟩
  case round =>
    obtain ⟨c, hc, rfl, HS⟩ := hrel
    clear HS0
    obtain ⟨P, M, d, X, O, hsd, hcnt, hle⟩ := HS.out
    have hck : c < 64 * kk := by have := HK.out.2.2.1; omega
    have hcI : (c : Int) < 64 * (kk : Int) := by omega
    have KB := Lib.hid hsd.begin
    obtain ⟨x0, x1⟩ := HR.out _ hsd.be
    have hok := hsd.ok
    obtain ⟨g1, g2, g3, g4, g5⟩ := HO.out
    obtain ⟨k1, k12, hrk, _⟩ := HK.out
    by_cases hfull : 62 * ((r + 1 : Nat) : Int) - 42 ≤ cntU O (64 * kk)
    · have HB := take_full12 hok (a := kk) (m := r + 1) (by omega) (by omega) (Nat.le_refl _) goal g1 g2 g3 g4 g5 hfull
      rw [HM.out] at HB
      have HBB := Lib.hid HB
      have hb0 := Lib.hid hsd.be
      clear HB hfull hok hsd hcnt hle g1 g2 g3 g4 g5 HS
      go_wp2_with (first
        | (go_at_call 14; refine KB.out.mono ?_; rintro e w6 ⟨rfl, P6, hm6, hs6, _⟩; obtain ⟨x60, x61⟩ := HR.out _ hm6.be)
        | (go_at_call 15; refine (HBB.out.land hm6 hs6).mono ?_; rintro e w7 ⟨rfl, P7, X7, hm7, hs7, _⟩; obtain ⟨x70, x71⟩ := HR.out _ hm7.be)
        | (go_at_call 16; refine (HBB.out.refe hm7 hs7).mono ?_; rintro e w8 ⟨rfl, hm8, hs8, _⟩)
        | (go_at_call 17; refine (hm8.undo hs8).mono ?_; rintro e w9 ⟨rfl, P9, X9, hsd9, _⟩; have hus := hsd9.used)
        | (go_at_call 18; refine hus.1.mono ?_; rintro e w10 ⟨rfl, hb10⟩)
        | (go_at_call 19; refine (hus.2 _ hb10).mono ?_; rintro e w11 ⟨rfl, rfl⟩))
      go_ret
      exact ⟨rfl, HB1.out.trans ((hsd9.be.trans (hb10.mono hsd9.be.size)).mono HB1.out.size)⟩
    · have hmono := cntU_mono O (show 64 * (r + 1) ≤ 64 * kk by omega)
      obtain ⟨f, f1, f2, f3, f4⟩ := find_free hok (m := r + 1) (g := goalS (64 * (r + 1)) goal) (by omega) (by omega) (by unfold goalS; split <;> omega) (by omega)
      have hfI : (f : Int) < 64 * (1 + (r : Int)) := by omega
      have HB := take_yes12 hok (a := kk) (m := r + 1) (by omega) (by omega) (Nat.le_refl _) goal g1 g2 g3 g4 g5 (by omega) f1 f2 f4
      rw [HM.out] at HB
      have HBB := Lib.hid HB
      have HO2 := Lib.hid (hok.set (by omega) f4 g1 g2 g3 g5)
      have HC2 : Hid (cntU (O.set f (i, j)) (64 * kk) = 6 + (c + 1) ∧ (6 : Int) + ((c + 1 : Nat) : Int) ≤ 62 * (1 + (r : Int)) - 42) := Lib.hid ⟨by rw [cntU_set (by rw [hok.len]; omega) f3 f4 g4 _ (by omega), hcnt]; omega, by omega⟩
      clear HB hfull hok hsd hcnt hle g1 g2 g3 g4 g5 HS hmono f1 f2 f3 f4
      go_wp2_with (first
        | (go_at_call 14; refine KB.out.mono ?_; rintro e w6 ⟨rfl, P6, hm6, hs6, _⟩; obtain ⟨x60, x61⟩ := HR.out _ hm6.be)
        | (go_at_call 15; refine (HBB.out.land hm6 hs6).mono ?_; rintro e w7 ⟨rfl, P7, X7, hm7, hs7, _⟩; obtain ⟨x70, x71⟩ := HR.out _ hm7.be)
        | (go_at_call 16; refine (HBB.out.refe hm7 hs7).mono ?_; rintro e w8 ⟨rfl, hm8, hs8, _⟩)
        | (go_at_call 17; refine (hm8.keep HO2.out hs8).mono ?_; rintro e w9 ⟨rfl, P9, X9, hsd9, _⟩))
      have HS9 : Hid (∃ P M d X O, Side W1 w9 P M d (.pointer (some ⟨b, 0, none⟩)) (.pointer (some ⟨br, 0, none⟩)) X (64 * (kk : Int)) O kk ∧ cntU O (64 * kk) = 6 + (c + 1) ∧ (6 : Int) + ((c + 1 : Nat) : Int) ≤ 62 * (1 + (r : Int)) - 42) := Lib.hid ⟨P9, M, d, X9, _, hsd9, HC2.out⟩
      clear hm6 hs6 hm7 hs7 hm8 hs8 hsd9 x0 x1 x60 x61 x70 x71
      go_roundw
      case rel => exact ⟨c + 1, by omega, by go_num, HS9⟩
      case measure => simp [intOf]; omega
section
open Go.ChangeShapes Go.WideShapes
theorem ow12_op {H : Type} {enc : TypeId × Value → H} {W : World} {base : Nat} {held : Bool} {v : Value} {d : DataW H} {p : List MemPlace} {r : Reach} {b0 : Nat} (hv : Value.okWide Tryz.prog W r b0 32 v) (h : DataW.Trod enc Tryz.prog W base (fun _ => true) held 32 v d p) : ∃ t : Int × Int, v = .agg #[.int .u16 t.1, .int .u16 t.2] ∧ (0 ≤ t.1 ∧ t.1 ≤ 65535) ∧ (0 ≤ t.2 ∧ t.2 ≤ 65535) := by
  obtain ⟨i, a, h1, h2, h3⟩ := ow12_open hv h
  exact ⟨(i, a), h1, h2, h3⟩
end
theorem lSpFills_of {w : World} {gr li goal : Int} (hgr : 0 ≤ gr ∧ gr ≤ 255) (hli : 0 ≤ li ∧ li ≤ 255) {v : Value} {t : Int × Int} (h : v = .agg #[.int .u16 t.1, .int .u16 t.2] ∧ (0 ≤ t.1 ∧ t.1 ≤ 65535) ∧ (0 ≤ t.2 ∧ t.2 ≤ 65535)) : Calls Tryz.prog 4 #[.int .u8 gr, .int .u8 li, .int .i64 goal, v] w fun e w' => e = .returned (.bool true) ∧ Below w.heap.size w w' := by
  obtain ⟨i, j⟩ := t
  obtain ⟨rfl, hi, hj⟩ := h
  by_cases hno : frmO i j = false ∨ i = 0 ∨ i = 65535
  · exact lSpF_no gr li goal hi hj hno
  · have hf : frmO i j = true := by cases h : frmO i j; · exact absurd (.inl h) hno
                                    · rfl
    exact lSpF_yes hgr hli goal hi hj hf (fun h => hno (.inr (.inl h))) (fun h => hno (.inr (.inr h)))
end Go.Proofs.YtkbeencjklgcnaaGreat
