/- What the law rests on: part 18. -/
import Derived.Test.YtaakepjgpnaecaaGreatKG17
set_option linter.unusedVariables false
namespace Go.Proofs.YtaakepjgpnaecaaGreat
set_option maxRecDepth 100000
open Go.RowKit
theorem splice_take {α : Type} {cur vs : List α} {o n : Nat} (h : o + vs.length ≤ n) (hn : n ≤ cur.length) : (splice cur o vs).take n = splice (cur.take n) o vs := by
  apply List.ext_getElem?
  intro i
  unfold splice
  by_cases h1 : i < n
  · rw [List.getElem?_take, if_pos h1]
    have e1 : (List.take o cur).length = o := by rw [List.length_take]; omega
    have e2 : (List.take o (List.take n cur)).length = o := by rw [List.length_take, List.length_take]; omega
    rw [List.getElem?_append, List.getElem?_append (l₁ := List.take o (List.take n cur)), e1, e2]
    by_cases h2 : i < o
    · rw [if_pos h2, if_pos h2, List.getElem?_take, List.getElem?_take, if_pos h2, if_pos h2, List.getElem?_take, if_pos h1]
    · rw [if_neg h2, if_neg h2, List.getElem?_append, List.getElem?_append]
      by_cases h3 : i - o < vs.length
      · rw [if_pos h3, if_pos h3]
      · rw [if_neg h3, if_neg h3, List.getElem?_drop, List.getElem?_drop, List.getElem?_take, if_pos (by omega)]
  · rw [List.getElem?_eq_none (by simp; omega), List.getElem?_eq_none (by simp; omega)]
theorem wpList_store_owp {ops : Array Oper} {rest : List Oper} {op : Oper} {a : Act} {w : World} {Q : Exit → Act → World → Prop} (hgd : op.guard = none) (x y : Operand) (ho : op.op = .store 36 x y)
    (g k : Nat) (O : List (Int × Int)) (cur : Array Value) (i j : Int) (hx : a.eval x = .pointer (some ⟨g, k * 2, none⟩)) (hy : a.eval y = .agg #[.int .u16 i, .int .u16 j])
    (hg : w.heap[g]? = some (.cells cur 36 (0, 0))) (hc : cur.toList.take (O.length * 2) = ownC O) (hs : O.length * 2 ≤ cur.size) (hk : k < O.length)
    (h : ∀ w' cur', Wrote w w' g → w'.heap[g]? = some (.cells cur' 36 (0, 0)) → cur'.size = cur.size → cur'.toList.take (O.length * 2) = ownC (O.set k (i, j)) → wpList Tryz.prog ops Q rest (a.put op.dst undef) w') : wpList Tryz.prog ops Q (op :: rest) a w := by
  have hz : (Tryz.prog.info? 36).map (·.size) = some 2 := by kernel_rfl
  have hg' : w.heap[g]? = some (.cells cur.toList.toArray 36 (0, 0)) := by rw [Array.toArray_toList]; exact hg
  have hl : k * 2 + (cO (i, j)).length ≤ cur.toList.length := by rw [show (cO (i, j)).length = 2 from rfl]; simpa using (show k * 2 + 2 ≤ cur.size by omega)
  have h1 : ∀ v ∈ cO (i, j), v.oneCell' = true := fun v hv => by simp [cO] at hv; rcases hv with rfl | rfl <;> rfl
  refine wpList_store_mid hgd 36 x y ho g (k * 2) #[.int .u16 i, .int .u16 j] hx hy (there_row hg' hl) (by rw [hz]; rfl) (all_oneCell_toArray (cs := cO (i, j)) h1) ?_
  have e := setCells_row hg' hl h1
  rw [show (#[Value.int .u16 i, Value.int .u16 j] : Array Value).toList = cO (i, j) from rfl, e]
  refine h _ (splice cur.toList (k * 2) (cO (i, j))).toArray (Wrote.setRow _ _ _) (setRow_heap _ _ _ _ _ _ hg) ?_ ?_
  · simp [splice, cO]; omega
  · rw [List.toList_toArray, splice_take (show k * 2 + 2 ≤ _ by omega) (by rw [Array.length_toList]; exact hs), hc, ownC, flat_set (f := cO) (s := 2) (fun x _ => cO_len x) k hk (i, j) (cO_len _)]
    rfl
section
variable {w : World} {M : Nat → Prop} {p : Value} {n : Int} {O : List (Int × Int)}
theorem RSp.row (h : RSp w M p n O) (h0 : 0 < O.length) : ∃ b g cap cur, p = .pointer (some ⟨b, 0, none⟩) ∧ w.heap[b]? = some (.cells #[.int .i64 n, .slice (some ⟨g, 0, none⟩) O.length cap] 131 (0, 0)) ∧ w.heap[g]? = some (.cells cur 36 (0, 0)) ∧ cur.toList.take (O.length * 2) = ownC O ∧ O.length ≤ cap ∧ cap ≤ maxLen ∧ cur.size = cap * 2 ∧ OwB O ∧ ∀ k, M k ↔ k = b ∨ k = g := by
  obtain ⟨b, v, rfl, hb, ⟨hB, ho⟩, hM⟩ := h
  rcases ho.2 with ⟨_, e0⟩ | ⟨g, cap, cur, rfl, _, hg, hnc, hcm, hcs, ht⟩
  · omega
  · refine ⟨b, g, cap, cur, rfl, hb, hg, ht, hnc, hcm, hcs, hB, fun k => (hM k).trans ?_⟩
    simp only [Value.ownBlock, Option.some.injEq]
    exact ⟨fun h => h.imp id Eq.symm, fun h => h.imp id Eq.symm⟩
theorem RSp.stored {b g cap : Nat} {cur' : Array Value} (hb : w.heap[b]? = some (.cells #[.int .i64 n, .slice (some ⟨g, 0, none⟩) O.length cap] 131 (0, 0))) {cur : Array Value} (hg0 : w.heap[g]? = some (.cells cur 36 (0, 0))) (hnc : O.length ≤ cap) (hcm : cap ≤ maxLen) (hB : OwB O) (hM : ∀ k, M k ↔ k = b ∨ k = g) {w' : World} (hw : Wrote w w' g) (hg : w'.heap[g]? = some (.cells cur' 36 (0, 0))) (hs : cur'.size = cap * 2)
    {k : Nat} {i j : Int} (ht : cur'.toList.take (O.length * 2) = ownC (O.set k (i, j))) (hij : (0 ≤ i ∧ i ≤ 65535) ∧ (0 ≤ j ∧ j ≤ 65535)) : RSp w' M (.pointer (some ⟨b, 0, none⟩)) n (O.set k (i, j)) ∧ Chg M M w w' := by
  have hne : b ≠ g := fun e => by
    rw [e, hg0] at hb
    injection hb with hb
    injection hb with _ hb _
    exact absurd hb (by decide)
  refine ⟨⟨b, .slice (some ⟨g, 0, none⟩) O.length cap, rfl, (hw.2.2.2.2 b hne).trans hb, ⟨?_, ?_⟩, ?_⟩, ⟨hw.1, hw.2.1, hw.2.2.1, by rw [hw.2.2.2.1]; exact Nat.le_refl _, fun x hx hn => ⟨hw.2.2.2.2 x fun e => hn ((hM x).2 (.inr e)), hn⟩⟩⟩
  · intro x
    rw [List.getD_eq_getElem?_getD, List.getElem?_set]
    by_cases e : k = x
    · rw [if_pos e]
      split
      · exact hij
      · exact ⟨by decide, by decide⟩
    · rw [if_neg e, ← List.getD_eq_getElem?_getD]
      exact hB x
  · rw [List.length_set]
    exact ⟨by rw [ownC_length, List.length_set], .inr ⟨g, cap, cur', rfl, Nat.zero_le _, hg, hnc, hcm, hs, ht⟩⟩
  · intro x
    rw [hM x]
    simp only [Value.ownBlock, Option.some.injEq]
    exact ⟨fun h => h.imp id Eq.symm, fun h => h.imp id Eq.symm⟩
end
end Go.Proofs.YtaakepjgpnaecaaGreat
namespace Go.Proofs.YtaakepjgpnaecaaGreat
set_option maxRecDepth 100000
open Go.RowKit BM
section
variable {w : World} {P : Nat → Prop} {d p : Value} {X : XSt} {O D : List (Int × Int)} {k : Nat}
theorem OB.far {B : Nat} {v : Value} {l : List Int} (h : OB w B v l) (hP : ∀ i, P i → i < B) : Apt P v := fun ad n cap e hn hp => by
  have := (World.ownsRow.lt h.2 ad.block (by rw [e]; rfl)).1
  have := hP _ hp
  omega
def putX (X : XSt) (g : Nat) (D : List (Int × Int)) : XSt := { X with call := putG X.call g D, put := addS (addS X.put ((dscN g : Int) + 1)) (dscN g : Int) }
theorem addS_le (S : List Int) (n : Int) : (addS S n).length ≤ S.length + 1 := by unfold addS; split <;> simp
theorem xPut_ok {X : XSt} {n : Int} {l : List Int} (hw : X.wi = true) (h0 : 0 ≤ n) (h1 : n < X.is.length) (hl : l.length = 256) (hp : X.put.length < 37) : xPut X n l = (0, { X with call := X.call.set n.toNat l, put := addS X.put n }) := by
  unfold xPut
  rw [if_neg (by rw [hw]; decide), if_neg (by omega), if_neg (by omega)]
theorem spWrite_of {v : Value} (h : SInv w P d p X) (hw : X.wi = true) (hp0 : X.put.length ≤ 35) (hlen : X.is.length = 64 * k) (h12 : k ≤ 12) {g : Nat} (hg : g < k) (hs : OwSl w v D) (ha : allO D = true) :
    Calls Tryz.prog 184 #[p, .int .i64 g, v] w fun e w' => e = .returned (.int .i64 0) ∧ ∃ P', SInv w' P' d p (putX X g D) ∧ Chg P P' w w' := by
  have hin := dscN_in hg
  have hlt := h.lt
  have KP := Lib.hid (grPage_yes hs ha)
  have KD : Hid (∀ W : World, Below w.heap.size w W → Calls Tryz.prog 70 #[.int .i64 g, v] W fun e w' => ∃ u, e = .returned (.tuple #[u, .int .i64 0]) ∧ OB w' W.heap.size u (descS g (usedK D 64)) ∧ Below W.heap.size W w') := Lib.hid fun W hb => spDesc_is (hs.below hb) (g : Int) (by omega) (by omega) ha
  have KGd := Lib.hid (fun (W : World) => gDesc_any (g : Int) W)
  have KGo := Lib.hid (fun (W : World) => gOwners_any (g : Int) W)
  rw [dscN_I (show g < 12 by omega)] at KGd
  rw [ownN_I (show g < 12 by omega)] at KGo
  have hD := allO_len ha
  have e1 : ((dscN g : Int) + 1).toNat = dscN g + 1 := by omega
  have x1 := xPut_ok (X := X) (n := (dscN g : Int) + 1) (l := pageS D) hw (by omega) (by omega) (pageS_length hD) (by omega)
  rw [e1] at x1
  have x2 := xPut_ok (X := { X with call := X.call.set (dscN g + 1) (pageS D), put := addS X.put ((dscN g : Int) + 1) }) (n := (dscN g : Int)) (l := descS g (usedK D 64)) hw (by omega) (by show _ < (X.is.length : Int); omega) (by rw [descS]; exact sealS_length _ (by rw [descC_length _ _ (usedK_length _ _)]; decide)) (by show (addS X.put ((dscN g : Int) + 1)).length < 37; have := addS_le X.put ((dscN g : Int) + 1); omega)
  have KS1 : Hid (∀ (W : World) (u : Value), Below w.heap.size w W → BSl W u (pageS D) → Calls Tryz.prog 16 #[p, .int .i64 ((dscN g : Int) + 1), u] W fun e w' => e = .returned (.int .i64 0) ∧ ∃ P', SInv w' P' d p { X with call := X.call.set (dscN g + 1) (pageS D), put := addS X.put ((dscN g : Int) + 1) } ∧ Chg P P' W w') := Lib.hid fun W u hb hu => by
    have := sPut_of (h.low hb) hu (n := (dscN g : Int) + 1) (by omega) (by rw [e1]; exact hin.2.2)
    rw [x1] at this
    exact this
  have KS2 : Hid (∀ (W : World) (u : Value) (P2 : Nat → Prop), SInv W P2 d p { X with call := X.call.set (dscN g + 1) (pageS D), put := addS X.put ((dscN g : Int) + 1) } → BSl W u (descS g (usedK D 64)) → Calls Tryz.prog 16 #[p, .int .i64 (dscN g : Nat), u] W fun e w' => e = .returned (.int .i64 0) ∧ ∃ P', SInv w' P' d p (putX X g D) ∧ Chg P2 P' W w') := Lib.hid fun W u P2 h2 hu => by
    have := sPut_of h2 hu (n := (dscN g : Int)) (by omega) (by rw [Int.toNat_natCast]; exact hin.2.1)
    rw [x2] at this
    exact this
  have HLT := Lib.hid hlt
  clear h hw hp0 hlen h12 hg hs ha hin hlt hD e1 x1 x2
  go_enter Tryz.func184, Tryz.ntmps184
  go_wp2_with (first
    | (go_at_call 198; refine KP.out.mono ?_; rintro e w1 ⟨vp, rfl, hvp, hb1⟩)
    | (go_at_call 70; refine (KD.out _ hb1).mono ?_; rintro e w2 ⟨vd, rfl, hvd, hb2⟩; have hb02 := hb1.trans (hb2.mono hb1.size); have hvp2 := hvp.below hb2; have hfar := hvd.far (P := P) (fun i hi => Nat.lt_of_lt_of_le (HLT.out i hi) hb1.size))
    | (go_at_call 66; refine (KGd.out _).mono ?_; rintro e w' ⟨rfl, rfl⟩)
    | (go_at_call 67; refine (KGo.out _).mono ?_; rintro e w' ⟨rfl, rfl⟩)
    | (go_at_call 16; (with_reducible refine (KS1.out _ _ hb02 hvp2.bsl).mono ?_); rintro e w3 ⟨rfl, P3, hi3, hc3⟩; have hvd3 := (hvd.bsl.chg hfar hc3).1)
    | (go_at_call 16; (with_reducible refine (KS2.out _ _ _ hi3 hvd3).mono ?_); rintro e w4 ⟨rfl, P4, hi4, hc4⟩))
  go_ret
  exact ⟨rfl, P4, hi4, ((Chg.of_below hb02).trans hc3).trans hc4⟩
end
section
variable {w : World} {P : Nat → Prop} {d p : Value} {X : XSt} {S : List Int} {N : List (List Int)} {bf : Nat}
def putI (X : XSt) (S : List Int) (N : List (List Int)) (n : Nat) (x : List Int) : XSt := { X with call := X.call.set (tabAt S (n / 8)) (encT (inT (N.set n x) (n / 8))), put := addS X.put (tabAt S (n / 8) : Nat) }
set_option maxHeartbeats 1000000 in
theorem fsPut_yes (h : SInv w P d p X) (hw : X.wi = true) (hp : X.put.length < 37) (hf : FsAt w bf p) (hT : Tab X.call S N) {n : Nat} (h0 : 1 ≤ n) (h48 : n < 48) {x : List Int} (hx : x.length = 14) (hfx : frmI x = true) {W : World} (hb : Below w.heap.size w W) :
    Calls Tryz.prog 58 #[.pointer (some ⟨bf, 0, none⟩), .int .i64 n, .agg (iC x).toArray] W fun e w' => e = .returned (.int .i64 0) ∧ ∃ P', SInv w' P' d p (putI X S N n x) ∧ Chg P P' W w' := by
  have ht : n / 8 < 6 := by omega
  have hj : n % 8 < 8 := by omega
  have hcur : X.cur = X.call := by unfold XSt.cur; rw [if_pos hw]
  have hT' : Tab X.cur S N := by rw [hcur]; exact hT
  have hin := tabAt_in hT.sf ht
  have hlA : tabAt S (n / 8) < X.is.length := by have := hT.at ht; rwa [← hcur, h.xok.curLen] at this
  have hb1 := below_box W (iO x 92)
  have hr1 := heap_alloc_new W (iO x 92)
  obtain ⟨w1, hw1⟩ : ∃ w1, w1 = W.alloc (iO x 92) := ⟨_, rfl⟩
  rw [← hw1] at hb1 hr1
  have h1 : W.alloc (.cells (iC x).toArray 92) = w1 := by rw [hw1]; rfl
  have hb01 := hb.trans (hb1.mono hb.size)
  have H1 := Lib.hid h1
  have HX := Lib.hid hx
  have u1 := Tryz.underlying92
  have HR1 : Hid (∀ V, Below w1.heap.size w1 V → V.rangeAt W.heap.size 0 (iC x)) := Lib.hid fun V hv => io_range (below_hold hr1 hv)
  have KF := Lib.hid (iForm_is hx true hfx)
  have KN := Lib.hid (fun (V : World) (hv : Below w.heap.size w V) => fsFind_yes h hf hT' h0 h48 hv)
  have hok2 := hT.n.set n hx hfx
  obtain ⟨h14', hal'⟩ := hok2.all ht
  have h14 := inT_14 hT.n.l14 (n / 8)
  have hl8 := inT_length hT.n.len ht
  have hl8' := inT_length hok2.len ht
  have hset := inT_set_self N n x
  obtain ⟨X', hX'⟩ : ∃ X', X' = putI X S N n x := ⟨_, rfl⟩
  have hxp := xPut_ok (X := X) (n := (tabAt S (n / 8) : Int)) (l := encT (inT (N.set n x) (n / 8))) hw (by omega) (by omega) (encT_len _) hp
  rw [Int.toNat_natCast, show ({ X with call := X.call.set (tabAt S (n / 8)) (encT (inT (N.set n x) (n / 8))), put := addS X.put (tabAt S (n / 8) : Nat) } : XSt) = X' from hX'.symm] at hxp
  rw [← hX']
  have KP : Hid (∀ (V : World) (u : Value), Below w.heap.size w V → BSl V u (encT (inT (N.set n x) (n / 8))) → Calls Tryz.prog 16 #[p, .int .i64 (tabAt S (n / 8) : Nat), u] V fun e w' => e = .returned (.int .i64 0) ∧ ∃ P', SInv w' P' d p X' ∧ Chg P P' V w') := Lib.hid fun V u hv hu => by
    have := sPut_of (h.low hv) hu (n := (tabAt S (n / 8) : Int)) (by omega) (by rw [Int.toNat_natCast]; exact hin.2.2.2.2.1)
    rw [hxp] at this
    exact this
  have KB := Lib.hid (fun (V : World) (hv : Below w.heap.size w V) => fsBlocks_of (hf.low hv))
  have HBW := Lib.hid hb01
  clear hw hp hf hT hT' hcur hw1 hr1 h1 hb hb01 hok2 hxp hX' h0 h48 h hfx hin hlA hx
  obtain ⟨A, hA⟩ : ∃ A, A = tabAt S (n / 8) := ⟨_, rfl⟩
  obtain ⟨T, hTT⟩ : ∃ T, T = inT N (n / 8) := ⟨_, rfl⟩
  obtain ⟨T2, hT2⟩ : ∃ T2, T2 = inT (N.set n x) (n / 8) := ⟨_, rfl⟩
  obtain ⟨j, hjj⟩ : ∃ j, j = n % 8 := ⟨_, rfl⟩
  rw [← hA] at KN KP
  rw [← hTT] at KN h14 hl8 hset
  rw [← hT2] at KP hl8' h14' hal' hset
  rw [← hjj] at KN hj hset
  have ej : (j : Int) < 8 := by omega
  have HJ : Hid (j < T.length) := Lib.hid (by omega)
  have H14 : Hid (∀ y ∈ T, (iC y).length = 14) := Lib.hid fun y hy => by rw [iC_length]; exact h14 y hy
  have KE := Lib.hid (fun (V : World) (g : Nat) (hr : V.heap[g]? = some (.cells ((T.set j x).flatMap iC).toArray 92 (0, 0))) => iEnc_yes (row8_sl h14' hl8' (by rw [hset]; exact hr)) hal')
  clear hA hTT hT2 hjj ht hj h14 h14' hl8 hl8' hal' hset
  go_enter Tryz.func58, Tryz.ntmps58
  go_upto_region 1 with (fail)
  rw [H1.out]
  have hrg := HR1.out _ (Below.refl _ _)
  go_upto_region 10 with (first
    | (with_reducible refine wpList_load_nums rfl 92 (.tmp 5) rfl W.heap.size 0 rfl x _ hrg u1 rfl (by rw [sizeIn, HX.out]) ?_)
    | (go_at_call 102; refine (KF.out _).mono ?_; rintro e w2 ⟨rfl, hb2⟩)
    | (go_at_call 103; refine (KN.out _ (HBW.out.trans (hb2.mono HBW.out.size))).mono ?_; rintro e w3 ⟨g, rfl, hg3, hr3, hb3⟩
       have hb34 := below_box w3 (.cells #[.int .i64 A, .slice (some ⟨g, 0, none⟩) 8 8, .int .i64 j] 163)
       have hr4 : (w3.alloc (.cells #[.int .i64 A, .slice (some ⟨g, 0, none⟩) 8 8, .int .i64 j] 163)).heap[g]? = some (.cells (T.flatMap iC).toArray 92 (0, 0)) := below_hold hr3 hb34
       have hb14 := (hb2.trans (hb3.mono hb2.size)).trans (hb34.mono (Nat.le_trans hb2.size hb3.size))
       have hrg4 := HR1.out _ hb14
       have hn4 := heap_alloc_new w3 (.cells #[.int .i64 A, .slice (some ⟨g, 0, none⟩) 8 8, .int .i64 j] 163)
       have hg1 := Nat.le_trans hb2.size hg3
       have hg3l := (Array.getElem?_eq_some_iff.1 hr3).1)
    | (with_reducible refine wpList_load_nums rfl 92 (.tmp 5) rfl W.heap.size 0 rfl x _ hrg4 u1 rfl (by rw [sizeIn, HX.out]) ?_)
    | (with_reducible refine wpList_store_flat (f := iC) (s := 14) rfl 92 (.tmp 27) (.tmp 26) rfl sizeIn g j T x 92 rfl rfl hr4 HJ.out H14.out (by rw [iC_length, HX.out]) (iC_one _) ?_; intro w5 hw5 hr5
       have hb15 := hb14.trans (hw5.below hg1)
       have hn5 := (hw5.2.2.2.2 w3.heap.size (by omega)).trans hn4
       have c50 := cell_of_row _ _ 0 _ _ _ hn5
       have c51 := cell_of_row _ _ 1 _ _ _ hn5
       have c52 := cell_of_row _ _ 2 _ _ _ hn5)
    | (go_at_call 104; refine (KE.out _ _ hr5).mono ?_; rintro e w6 ⟨u, rfl, hu6, hb6⟩
       have hb16 := hb15.trans (hb6.mono hb15.size)
       have hn6 := below_hold hn5 hb6
       have c60 : w6.drew.cell? ⟨w3.heap.size, 0, none⟩ = some (.int .i64 A) := by rw [show w6.drew.cell? ⟨w3.heap.size, 0, none⟩ = w6.cell? ⟨w3.heap.size, 0, none⟩ from rfl, cell_of_row _ _ 0 _ _ _ hn6]; rfl))
  have hbd : Below w6.heap.size w6 w6.drew := (Below.refl _ _).drew
  have hb17 := hb16.trans (hbd.mono hb16.size)
  have hu7 := hu6.bsl.below hbd
  have KB7 : Hid (Calls Tryz.prog 105 #[.pointer (some ⟨bf, 0, none⟩)] w6.drew fun e w' => e = Ending.returned p ∧ w' = w6.drew) := Lib.hid ((KB.out _ (HBW.out.trans (hb17.mono HBW.out.size))).mono fun e w' ⟨h1, h2⟩ => ⟨h1, h2.symm⟩)
  have KP7 := Lib.hid (KP.out _ _ (HBW.out.trans (hb17.mono HBW.out.size)) hu7)
  have HB7 := Lib.hid (hb1.trans (hb17.mono hb1.size))
  clear hrg hrg4 hr3 hr4 hr5 hn4 hn5 hn6 c50 c51 c52
  refine wp_region_still_tail 5 (by kernel_rfl) (by kernel_rfl) ?_
  simp only [List.take_succ_cons, List.take_zero, List.drop_succ_cons, List.drop_zero]
  repeat still_step
  still_call KB7.out
  repeat still_step
  refine wpStill_nil ?_
  change wpList _ _ _ _ _ w6.drew
  go_wp2_with (go_at_call 16; refine KP7.out.mono ?_; rintro e w8 ⟨rfl, P8, hi8, hc8⟩)
  go_ret
  exact ⟨rfl, P8, hi8, (Chg.of_below HB7.out).trans hc8⟩
end
def kindN (N : List (List Int)) (m : Nat) : Int := (N.getD m []).getD 0 0
def FreeAt (N : List (List Int)) (f : Nat) : Prop := 1 ≤ f ∧ f < 48 ∧ kindN N f = 0 ∧ ∀ m, 1 ≤ m → m < f → kindN N m ≠ 0
def FullN (N : List (List Int)) : Prop := ∀ m, 1 ≤ m → m < 48 → kindN N m ≠ 0
theorem FreeAt.one {N : List (List Int)} {f g : Nat} (h : FreeAt N f) (h' : FreeAt N g) : f = g := by
  rcases Nat.lt_trichotomy f g with e | e | e
  · exact absurd h.2.2.1 (h'.2.2.2 f h.1 e)
  · exact e
  · exact absurd h'.2.2.1 (h.2.2.2 g h'.1 e)
theorem idx_a6 {L : List Int} (hL : L.length = 6) (W : World) (t : Nat) (ht : t < 6) : (Instr.index 139 (.agg (iC L).toArray) (.int .i64 (t : Int))).run Tryz.prog W = .ok (.int .i64 (L.getD t 0)) W := by
  match L, hL with
  | [t0, t1, t2, t3, t4, t5], _ =>
    have : t = 0 ∨ t = 1 ∨ t = 2 ∨ t = 3 ∨ t = 4 ∨ t = 5 := by omega
    rcases this with rfl | rfl | rfl | rfl | rfl | rfl <;> simp [Instr.index, run_underlying Tryz.underlying139, asIntOf, go_sem, iC]
theorem infoA6 : (Tryz.prog.info? 139).map (·.size) = some 6 := by kernel_rfl
section
variable {w : World} {P : Nat → Prop} {d p : Value} {X : XSt} {S : List Int} {N : List (List Int)} {bf : Nat}
set_option maxHeartbeats 1000000 in
theorem fsFree_any (h : SInv w P d p X) (hf : FsAt w bf p) (hT : Tab X.cur S N) {W : World} (hb : Below w.heap.size w W) :
    Calls Tryz.prog 57 #[.pointer (some ⟨bf, 0, none⟩)] W fun e w' => ((∃ f, FreeAt N f ∧ e = .returned (.tuple #[.int .i64 (f : Nat), .int .i64 0])) ∨ (FullN N ∧ e = .returned (.tuple #[.int .i64 0, .int .i64 13]))) ∧ Below W.heap.size W w' := by
  have KS := Lib.hid (fsSuper_of h hf hT hb)
  have KI := Lib.hid (fun (t : Nat) (ht : t < 6) (V : World) (hv : Below w.heap.size w V) => fsInodes_of h hf hT ht hv)
  have HBW := Lib.hid hb
  have h12 := hT.s12
  have hd6 : (S.drop 6).length = 6 := by rw [List.length_drop, h12]
  obtain ⟨A6, hA6⟩ : ∃ A6, A6 = Value.agg (iC (S.drop 6)).toArray := ⟨_, rfl⟩
  have HA6 := Lib.hid hA6.symm
  have HIX : Hid (∀ (V : World) (t : Nat), t < 6 → (Instr.index 139 A6 (.int .i64 (t : Int))).run Tryz.prog V = .ok (.int .i64 (tabAt S t : Nat)) V) := Lib.hid fun V t ht => by
    rw [hA6, idx_a6 hd6 V t ht]
    have := (tabAt_in hT.sf ht).1
    unfold num at this
    rw [← this, List.getD_eq_getElem?_getD, List.getD_eq_getElem?_getD, List.getElem?_drop]
  have HRG : Hid (∀ (V : World) (g : Nat), V.heap[g]? = some (supO S 155) → V.rangeAt g 6 (iC (S.drop 6))) := Lib.hid fun V g hr => range_row (cur := S.map (Value.int .i64)) hr (by
    rw [iC_length, hd6, List.take_of_length_le (by rw [List.length_drop, List.length_map, h12]; decide), iC, List.map_drop])
  have H14 : Hid (∀ t, Len14 (inT N t)) := Lib.hid fun t => inT_14 hT.n.l14 t
  have H8 : Hid (∀ t, t < 6 → (inT N t).length = 8) := Lib.hid fun t ht => inT_length hT.n.len ht
  have u6 := Tryz.underlying139
  have u1 := Tryz.underlying92
  have HD6 := Lib.hid hd6
  clear h hf hT hb hA6 hd6
  go_enter Tryz.func57, Tryz.ntmps57
  go_wp2_with (first
    | (go_at_call 100; refine KS.out.mono ?_; rintro e w2 ⟨rfl, hb2⟩)
    | (with_reducible refine wpList_storeS rfl (.tmp 4) (.tmp 16) rfl w2.heap.size rfl S zeroS rfl h12 rfl _ (heap_alloc_new w2 _) ?_
       intro w3 hw3 hr3
       have hb3 := hb2.trans ((below_box w2 (supO zeroS 155)).mono hb2.size)
       have hb13 : Below W.heap.size W w3 := hb3.trans (hw3.below (Nat.le_trans hb2.size (Nat.le_refl _)))
       have hrg3 := HRG.out _ _ hr3)
    | (with_reducible refine wpList_load_nums rfl 139 (.tmp 21) rfl w2.heap.size 6 rfl (S.drop 6) _ hrg3 u6 rfl (by rw [infoA6, HD6.out]) ?_; rw [HA6.out]))
  have HB3 := Lib.hid hb13
  clear hb2 hw3 hr3 hb3 hrg3 hb13
  go_loopw [6, 23] (fun ino i wr => ∃ t : Nat, t ≤ 6 ∧ i = .int .i64 t ∧ ino = .int .i64 ((8 * t : Nat) : Int) ∧ Hid (∀ m, 1 ≤ m → m < 8 * t → kindN N m ≠ 0) ∧ Hid (Below W.heap.size W wr)) (fun _ i _ => 6 - (intOf i).toNat)
  case atStart => exact ⟨0, by omega, rfl, rfl, Lib.hid fun m h1 h2 => absurd h2 (Nat.not_lt_zero _), HB3⟩
  case round =>
    obtain ⟨t, ht, rfl, rfl, HS, HB⟩ := hrel
    clear HB3
    by_cases hlt : t < 6
    · have hix := HIX.out wr t hlt
      have elt : (t : Int) < 6 := by omega
      have KI1 := Lib.hid (KI.out t hlt wr (HBW.out.trans (HB.out.mono HBW.out.size)))
      have h14 := Lib.hid (H14.out t)
      have h8 := Lib.hid (H8.out t hlt)
      have HE : Hid (∀ j, j < 8 → ((inT N t).getD j []).getD 0 0 = kindN N (8 * t + j)) := Lib.hid fun j hj => by unfold kindN; rw [inT_getD N t hj]
      obtain ⟨T, hTT⟩ : ∃ T, T = inT N t := ⟨_, rfl⟩
      rw [← hTT] at KI1 h14 h8 HE
      obtain ⟨A, hA⟩ : ∃ A, A = tabAt S t := ⟨_, rfl⟩
      rw [← hA] at KI1 hix
      clear hTT hA
      obtain ⟨M8, hM8⟩ : ∃ M8 : Nat, M8 = 8 := ⟨_, rfl⟩
      have HM8 := Lib.hid hM8
      go_wp2_with (go_at_call 101; refine KI1.out.mono ?_; rintro e w4 ⟨g, rfl, hg4, hr4, hb4⟩)
      have HR4 : Hid (w4.heap[g]? = some (.cells (T.flatMap iC).toArray 92 (0, 0))) := Lib.hid hr4
      have HB4 := Lib.hid (HB.out.trans (hb4.mono HB.out.size))
      clear hix hr4 hb4 hg4 hM8
      go_loopw [6, 37] (fun ino i wr => ∃ j : Nat, j ≤ 8 ∧ i = .int .i64 j ∧ ino = .int .i64 ((8 * t + j : Nat) : Int) ∧ Hid (∀ m, 1 ≤ m → m < 8 * t + j → kindN N m ≠ 0) ∧ Hid (Below w4.heap.size w4 wr)) (fun _ i _ => 8 - (intOf i).toNat)
      case atStart => exact ⟨0, by omega, rfl, rfl, HS, Lib.hid (Below.refl _ _)⟩
      case round =>
        obtain ⟨j, hj, rfl, rfl, HS2, HB2⟩ := hrel
        by_cases hlj : j < 8
        · have elj : (j : Int) < 8 := by omega
          have hr := below_hold HR4.out HB2.out
          obtain ⟨x, hx⟩ : ∃ x, x = T.getD j [] := ⟨_, rfl⟩
          have hrg : wr.rangeAt g (j * 14) (iC x) := by
            have hjl : j < T.length := by rw [h8.out]; exact hlj
            have := flat_range (f := iC) (s := 14) (k := j) hr (fun y hy => by rw [iC_length]; exact h14.out y hy) hjl
            rw [hx, List.getD_eq_getElem?_getD, List.getElem?_eq_getElem hjl]
            exact this
          have hx14 : x.length = 14 := by rw [hx]; exact len14_get h14.out j (by rw [h8.out]; exact hlj)
          have HX14 := Lib.hid hx14
          have hkd := HE.out j hlj
          rw [← hx] at hkd
          obtain ⟨kd, hkk⟩ : ∃ kd, kd = kindN N (8 * t + j) := ⟨_, rfl⟩
          rw [← hkk] at hkd
          have HKD := Lib.hid hkd
          have HKK := Lib.hid hkk
          obtain ⟨i, hi⟩ : ∃ i : Nat, i = 8 * t + j := ⟨_, rfl⟩
          have hi48 : i < 48 := by omega
          have HI := Lib.hid hi
          rw [← hi] at HKK HS2 ⊢
          clear hx hr hkd hkk hi hx14
          by_cases h0 : i = 0
          · subst h0
            go_wp2_with (first
              | (with_reducible refine wpList_load_nums rfl 92 (.tmp 39) rfl g (j * 14) rfl x _ hrg u1 rfl (by rw [sizeIn, HX14.out]) ?_)
              | (with_reducible refine wpList_storeI rfl (.tmp 12) (.tmp 40) rfl wr.heap.size rfl x zeroI rfl HX14.out rfl _ (heap_alloc_new wr _) ?_
                 intro w5 hw5 hr5
                 have hb5 := HB2.out.trans (((below_box wr (iO zeroI 92)).trans (hw5.below (Nat.le_refl _))).mono HB2.out.size)))
            go_roundw
            case rel => exact ⟨j + 1, by omega, by go_num, by have := HI.out; rw [show 8 * t + (j + 1) = 0 + 1 by omega]; go_num, Lib.hid fun m h1 h2 => by have := HI.out; omega, Lib.hid hb5⟩
            case measure => simp [intOf]; omega
          · have ei : (0 : Int) < (i : Int) := by omega
            rcases hkb : (kd == 0) with _ | _
            · go_wp2_with (first
                | (with_reducible refine wpList_load_nums rfl 92 (.tmp 39) rfl g (j * 14) rfl x _ hrg u1 rfl (by rw [sizeIn, HX14.out]) ?_)
                | (with_reducible refine wpList_storeI rfl (.tmp 12) (.tmp 40) rfl wr.heap.size rfl x zeroI rfl HX14.out rfl _ (heap_alloc_new wr _) ?_
                   intro w5 hw5 hr5
                   have hb5 := HB2.out.trans (((below_box wr (iO zeroI 92)).trans (hw5.below (Nat.le_refl _))).mono HB2.out.size)
                   have c0 := io_cell hr5 0 (by rw [HX14.out]; decide)
                   rw [HKD.out] at c0))
              go_roundw
              case rel => exact ⟨j + 1, by omega, by go_num, by have := HI.out; rw [show 8 * t + (j + 1) = i + 1 by omega]; go_num, Lib.hid fun m h1 h2 => by
                by_cases e : m = i
                · rw [e, ← HKK.out]; simpa using hkb
                · exact HS2.out m h1 (by have := HI.out; omega), Lib.hid hb5⟩
              case measure => simp [intOf]; omega
            · go_wp2_with (first
                | (with_reducible refine wpList_load_nums rfl 92 (.tmp 39) rfl g (j * 14) rfl x _ hrg u1 rfl (by rw [sizeIn, HX14.out]) ?_)
                | (with_reducible refine wpList_storeI rfl (.tmp 12) (.tmp 40) rfl wr.heap.size rfl x zeroI rfl HX14.out rfl _ (heap_alloc_new wr _) ?_
                   intro w5 hw5 hr5
                   have hb5 := HB2.out.trans (((below_box wr (iO zeroI 92)).trans (hw5.below (Nat.le_refl _))).mono HB2.out.size)
                   have c0 := io_cell hr5 0 (by rw [HX14.out]; decide)
                   rw [HKD.out] at c0))
              go_ret2
              refine ⟨.inl ⟨i, ⟨by omega, hi48, by rw [← HKK.out]; simpa using hkb, HS2.out⟩, rfl⟩, HB4.out.trans (hb5.mono HB4.out.size)⟩
        · obtain rfl : j = 8 := by omega
          have HB5 := Lib.hid (HB4.out.trans (HB2.out.mono HB4.out.size))
          go_wp2
          go_roundw
          case rel => exact ⟨t + 1, by omega, by go_num, rfl, HS2, HB5⟩
          case measure => simp [intOf]; omega
    · obtain rfl : t = 6 := by omega
      go_wp2
      go_ret2
      exact ⟨.inr ⟨HS.out, rfl⟩, HB.out⟩
end
end Go.Proofs.YtaakepjgpnaecaaGreat
namespace Go.Proofs.YtaakepjgpnaecaaGreat
set_option maxRecDepth 100000
open Go.RowKit
theorem sLimit_of {L : List Int} (hL : L.length = 12) (hT : Top L) (w : World) :
    Calls Tryz.prog 119 #[supV L] w fun e w' => e = .returned (.int .i64 (limS L)) ∧ Below w.heap.size w w' := by
  have h0 : frmS L = false ∨ frmS L = true := by cases frmS L <;> simp
  have KF : ∀ B, frmS L = B → _ := fun B h => sFormed_is hL hT B h
  have hr : limS L = if frmS L = true then (if num L 1 = 2 then num L 2 else num L 0) else 0 := rfl
  have hob := below_box w (supO L 155)
  have hh := heap_alloc_new w (supO L 155)
  obtain ⟨W1, hW1⟩ : ∃ W1, W1 = w.alloc (supO L 155) := ⟨_, rfl⟩
  rw [← hW1] at hob hh
  match L, hL with
  | [b, st, tg, cu, io, ba, t0, t1, t2, t3, t4, t5], _ =>
    have hW2 : w.alloc (.cells #[.int .i64 b, .int .i64 st, .int .i64 tg, .int .i64 cu, .int .i64 io, .int .i64 ba, .int .i64 t0, .int .i64 t1, .int .i64 t2, .int .i64 t3, .int .i64 t4, .int .i64 t5] 155) = W1 := by rw [hW1]; rfl
    have H2 := Lib.hid hW2
    have HH := Lib.hid hh
    change limS [b, st, tg, cu, io, ba, t0, t1, t2, t3, t4, t5] = if frmS [b, st, tg, cu, io, ba, t0, t1, t2, t3, t4, t5] = true then (if st = 2 then tg else b) else 0 at hr
    show Calls Tryz.prog 119 #[.agg #[.int .i64 b, .int .i64 st, .int .i64 tg, .int .i64 cu, .int .i64 io, .int .i64 ba, .int .i64 t0, .int .i64 t1, .int .i64 t2, .int .i64 t3, .int .i64 t4, .int .i64 t5]] w fun e w' => e = .returned (.int .i64 (limS _)) ∧ Below w.heap.size w w'
    rw [hr]
    rcases h0 with h0 | h0
    · rw [h0]
      have K0 : Hid (∀ w, Calls Tryz.prog 157 #[.agg #[.int .i64 b, .int .i64 st, .int .i64 tg, .int .i64 cu, .int .i64 io, .int .i64 ba, .int .i64 t0, .int .i64 t1, .int .i64 t2, .int .i64 t3, .int .i64 t4, .int .i64 t5]] w fun e w' => e = .returned (.bool false) ∧ Below w.heap.size w w') := Lib.hid (KF _ h0)
      clear KF hr h0 hW1 hW2 hT hh
      go_enter Tryz.func119, Tryz.ntmps119
      go_wp2_with (first | (go_at_call 157; rw [H2.out]; refine (K0.out _).mono ?_; rintro e w2 ⟨rfl, hb2⟩))
      go_ret
      exact ⟨rfl, hob.trans (hb2.mono hob.size)⟩
    · rw [h0]
      have K0 : Hid (∀ w, Calls Tryz.prog 157 #[.agg #[.int .i64 b, .int .i64 st, .int .i64 tg, .int .i64 cu, .int .i64 io, .int .i64 ba, .int .i64 t0, .int .i64 t1, .int .i64 t2, .int .i64 t3, .int .i64 t4, .int .i64 t5]] w fun e w' => e = .returned (.bool true) ∧ Below w.heap.size w w') := Lib.hid (KF _ h0)
      clear KF hr h0 hW1 hW2 hT hh
      by_cases h2 : st = 2
      · rw [if_pos rfl, if_pos h2]
        have h2' : (st == 2) = true := by simp [h2]
        clear h2
        go_enter Tryz.func119, Tryz.ntmps119
        go_wp2_with (first | (go_at_call 157; rw [H2.out]; refine (K0.out _).mono ?_; rintro e w2 ⟨rfl, hb2⟩; have hc := sup_cells ((hb2.block _ (Array.getElem?_eq_some_iff.1 HH.out).1).trans HH.out)))
        go_ret
        exact ⟨rfl, hob.trans (hb2.mono hob.size)⟩
      · rw [if_pos rfl, if_neg h2]
        have h2' : (st == 2) = false := by simp [h2]
        clear h2
        go_enter Tryz.func119, Tryz.ntmps119
        go_wp2_with (first | (go_at_call 157; rw [H2.out]; refine (K0.out _).mono ?_; rintro e w2 ⟨rfl, hb2⟩; have hc := sup_cells ((hb2.block _ (Array.getElem?_eq_some_iff.1 HH.out).1).trans HH.out)))
        go_ret
        exact ⟨rfl, hob.trans (hb2.mono hob.size)⟩
end Go.Proofs.YtaakepjgpnaecaaGreat
namespace Go.Proofs.YtaakepjgpnaecaaGreat
set_option maxRecDepth 100000
open Go.RowKit BM
def kindI (k : Int) : List Int := [k, 0, 0, 0, 0, 0, 0, 0, 0, 0, 0, 0, 0, 0]
theorem kindI_frm {k : Int} (h : 1 ≤ k ∧ k ≤ 3) : frmI (kindI k) = true := by
  have : k = 1 ∨ k = 2 ∨ k = 3 := by omega
  rcases this with rfl | rfl | rfl <;> decide
theorem fsGive_any {W : World} {bf : Nat} {p : Value} {n : Int} {R : Int → World → Prop} (hf : FsAt W bf p) (hK : Calls Tryz.prog 122 #[p, .int .i64 n] W fun e w' => ∃ E : Int, e = .returned (.int .i64 E) ∧ R E w') :
    Calls Tryz.prog 78 #[.pointer (some ⟨bf, 0, none⟩), .int .i64 n] W fun e w' => ∃ E : Int, e = .returned (.int .i64 E) ∧ R E w' := by
  have KB := Lib.hid (fsBlocks_of hf)
  have KG := Lib.hid hK
  clear hf hK
  go_enter Tryz.func78, Tryz.ntmps78
  go_wp2_with (first
    | (go_at_call 105; refine KB.out.mono ?_; rintro e w' ⟨rfl, rfl⟩)
    | (go_at_call 122; refine KG.out.mono ?_; rintro e w2 ⟨E, rfl, hr⟩))
  go_ret
  exact ⟨E, rfl, hr⟩
section
variable {w : World} {P : Nat → Prop} {d p : Value} {X : XSt} {S : List Int} {N : List (List Int)} {bf : Nat}
theorem fsMake_full (h : SInv w P d p X) (hf : FsAt w bf p) (hT : Tab X.cur S N) (hN : FullN N) {k : Int} (hk : 1 ≤ k ∧ k ≤ 3) {W : World} (hb : Below w.heap.size w W) :
    Calls Tryz.prog 23 #[.pointer (some ⟨bf, 0, none⟩), .int .i64 k] W fun e w' => e = .returned (.tuple #[.int .i64 0, .int .i64 13]) ∧ Below W.heap.size W w' := by
  have KF := Lib.hid ((fsFree_any h hf hT hb).mono fun e w' ⟨ho, hb⟩ => show e = Ending.returned (.tuple #[.int .i64 0, .int .i64 13]) ∧ Below W.heap.size W w' from ⟨ho.elim (fun ⟨f, h1, _⟩ => absurd h1.2.2.1 (hN f h1.1 h1.2.1)) fun h2 => h2.2, hb⟩)
  clear h hf hT hN hb
  have : k = 1 ∨ k = 2 ∨ k = 3 := by omega
  rcases this with rfl | rfl | rfl
  all_goals
    clear hk
    go_enter Tryz.func23, Tryz.ntmps23
    go_wp2_with (go_at_call 57; refine KF.out.mono ?_; rintro e w2 ⟨rfl, hb2⟩)
    go_ret2
    exact ⟨rfl, hb2⟩
theorem fsMake_yes (h : SInv w P d p X) (hw : X.wi = true) (hp : X.put.length < 37) (hf : FsAt w bf p) (hT : Tab X.call S N) {f : Nat} (hN : FreeAt N f) {k : Int} (hk : 1 ≤ k ∧ k ≤ 3) {W : World} (hb : Below w.heap.size w W) :
    Calls Tryz.prog 23 #[.pointer (some ⟨bf, 0, none⟩), .int .i64 k] W fun e w' => e = .returned (.tuple #[.int .i64 (f : Nat), .int .i64 0]) ∧ ∃ P', SInv w' P' d p (putI X S N f (kindI k)) ∧ Chg P P' W w' := by
  have hT' : Tab X.cur S N := by unfold XSt.cur; rw [if_pos hw]; exact hT
  have KF := Lib.hid ((fsFree_any h hf hT' hb).mono fun e w' ⟨ho, hb⟩ => show e = Ending.returned (.tuple #[.int .i64 (f : Nat), .int .i64 0]) ∧ Below W.heap.size W w' from ⟨ho.elim (fun ⟨g, h1, h2⟩ => by rw [h2, h1.one hN]) fun h2 => absurd hN.2.2.1 (h2.1 f hN.1 hN.2.1), hb⟩)
  obtain ⟨X', hX'⟩ : ∃ X', X' = putI X S N f (kindI k) := ⟨_, rfl⟩
  have KP : Hid (∀ V : World, Below w.heap.size w V → Calls Tryz.prog 58 #[.pointer (some ⟨bf, 0, none⟩), .int .i64 (f : Nat), .agg #[.int .i64 k, .int .i64 0, .int .i64 0, .int .i64 0, .int .i64 0, .int .i64 0, .int .i64 0, .int .i64 0, .int .i64 0, .int .i64 0, .int .i64 0, .int .i64 0, .int .i64 0, .int .i64 0]] V fun e w' => e = .returned (.int .i64 0) ∧ ∃ P', SInv w' P' d p X' ∧ Chg P P' V w') := Lib.hid fun V hv => by
    rw [hX']; exact fsPut_yes h hw hp hf hT hN.1 hN.2.1 (x := kindI k) rfl (kindI_frm hk) hv
  rw [← hX']
  have HB := Lib.hid hb
  clear h hf hT hT' hN hb hw hp hX'
  have : k = 1 ∨ k = 2 ∨ k = 3 := by omega
  rcases this with rfl | rfl | rfl
  all_goals
    clear hk
    go_enter Tryz.func23, Tryz.ntmps23
    go_wp2_with (first
      | (go_at_call 57; refine KF.out.mono ?_; rintro e w2 ⟨rfl, hb2⟩)
      | (go_at_call 58; refine (KP.out _ (HB.out.trans (hb2.mono HB.out.size))).mono ?_; rintro e w3 ⟨rfl, P3, hi3, hc3⟩))
    go_ret2
    exact ⟨rfl, P3, hi3, (Chg.of_below hb2).trans hc3⟩
theorem list12_ex {L : List Int} (h : L.length = 12) : ∃ b  st  tg  cu  io  ba  t0  t1  t2  t3  t4  t5 : Int, L = [b, st, tg, cu, io, ba, t0, t1, t2, t3, t4, t5] := by
  match L, h with
  | [b, st, tg, cu, io, ba, t0, t1, t2, t3, t4, t5], _ => exact ⟨b, st, tg, cu, io, ba, t0, t1, t2, t3, t4, t5, rfl⟩
set_option maxHeartbeats 4000000 in
theorem fsTake_any (h : SInv w P d p X) (hf : FsAt w bf p) (hT : Tab X.cur S N) (hTop : Top S) {goal i j : Int} {W : World} (hb : Below w.heap.size w W) {R : Int → Int → World → World → Prop}
    (hR : ∀ x E V w' b, W.heap.size ≤ b → b < V.heap.size → R x E V w' → w'.heap[b]? = V.heap[b]?)
    (hK : ∀ V, Below W.heap.size W V → Calls Tryz.prog 118 #[p, .int .i64 (num S 0), .int .i64 (limS S), .int .i64 goal, .agg #[.int .u16 i, .int .u16 j]] V fun e w' => ∃ x E : Int, e = .returned (.tuple #[.int .i64 x, .int .i64 E]) ∧ R x E V w') :
    Calls Tryz.prog 75 #[.pointer (some ⟨bf, 0, none⟩), .int .i64 goal, .agg #[.int .u16 i, .int .u16 j]] W fun e w' => ∃ (x E : Int) (V : World), e = .returned (.tuple #[.int .i64 x, .int .i64 E]) ∧ Below W.heap.size W V ∧ R x E V w' := by
  obtain ⟨o, ho⟩ : ∃ o, o = W.heap.size := ⟨_, rfl⟩
  have hb1 := below_box W (.cells #[.int .u16 i, .int .u16 j] 36)
  have hr1 := heap_alloc_new W (.cells #[.int .u16 i, .int .u16 j] 36)
  obtain ⟨w1, hw1⟩ : ∃ w1, w1 = W.alloc (.cells #[.int .u16 i, .int .u16 j] 36) := ⟨_, rfl⟩
  rw [← hw1] at hb1 hr1
  have H1 := Lib.hid hw1.symm
  have hb01 := hb.trans (hb1.mono hb.size)
  have KS := Lib.hid (fsSuper_of h hf hT hb01)
  have KB := Lib.hid (fun (V : World) (hv : Below w.heap.size w V) => fsBlocks_of (hf.low hv))
  have KL := Lib.hid (sLimit_of hT.s12 hTop)
  have h12 := hT.s12
  have HBW := Lib.hid hb01
  have HRR := Lib.hid hR
  clear h hf hT hTop hb hb01 hw1
  obtain ⟨b, st, tg, cu, io, ba, t0, t1, t2, t3, t4, t5, rfl⟩ := list12_ex h12
  obtain ⟨l, hll⟩ : ∃ l, l = limS [b, st, tg, cu, io, ba, t0, t1, t2, t3, t4, t5] := ⟨_, rfl⟩
  rw [← hll] at hK KL
  have KT : Hid (∀ V, Below W.heap.size W V → Calls Tryz.prog 118 #[p, .int .i64 b, .int .i64 l, .int .i64 goal, .agg #[.int .u16 i, .int .u16 j]] V fun e w' => ∃ x E : Int, e = .returned (.tuple #[.int .i64 x, .int .i64 E]) ∧ R x E V w') := Lib.hid hK
  clear hll hK hR
  have KL2 : Hid (∀ V : World, Calls Tryz.prog 119 #[.agg #[.int .i64 b, .int .i64 st, .int .i64 tg, .int .i64 cu, .int .i64 io, .int .i64 ba, .int .i64 t0, .int .i64 t1, .int .i64 t2, .int .i64 t3, .int .i64 t4, .int .i64 t5]] V fun e w' => e = .returned (.int .i64 l) ∧ Below V.heap.size V w') := KL
  have KS2 : Hid (Calls Tryz.prog 100 #[.pointer (some ⟨bf, 0, none⟩)] w1 fun e w' => e = Ending.returned (.tuple #[.agg #[.int .i64 b, .int .i64 st, .int .i64 tg, .int .i64 cu, .int .i64 io, .int .i64 ba, .int .i64 t0, .int .i64 t1, .int .i64 t2, .int .i64 t3, .int .i64 t4, .int .i64 t5], .int .i64 0]) ∧ Below w1.heap.size w1 w') := KS
  go_enter Tryz.func75, Tryz.ntmps75
  go_upto_region 4 with (go_at_call 100; rw [H1.out]; refine KS2.out.mono ?_; rintro e w2 ⟨rfl, hb2⟩)
  have hb23 := below_box w2 (supO [b, st, tg, cu, io, ba, t0, t1, t2, t3, t4, t5] 155)
  have hr3 := heap_alloc_new w2 (supO [b, st, tg, cu, io, ba, t0, t1, t2, t3, t4, t5] 155)
  obtain ⟨w3, hw3⟩ : ∃ w3, w3 = w2.alloc (supO [b, st, tg, cu, io, ba, t0, t1, t2, t3, t4, t5] 155) := ⟨_, rfl⟩
  rw [← hw3] at hb23 hr3
  rw [show w2.alloc (.cells #[.int .i64 b, .int .i64 st, .int .i64 tg, .int .i64 cu, .int .i64 io, .int .i64 ba, .int .i64 t0, .int .i64 t1, .int .i64 t2, .int .i64 t3, .int .i64 t4, .int .i64 t5] 155) = w3 from hw3.symm, ← ho]
  have hq0 := Nat.le_trans hb1.size hb2.size
  obtain ⟨q, hq⟩ : ∃ q, q = w2.heap.size := ⟨_, rfl⟩
  rw [← hq] at hr3 hq0 ⊢
  have hb13 := hb2.trans (hb23.mono hb2.size)
  have hqo : W.heap.size ≤ q ∧ q < w3.heap.size := ⟨hq0, (Array.getElem?_eq_some_iff.1 hr3).1⟩
  have hol : W.heap.size < w3.heap.size := Nat.lt_of_le_of_lt hqo.1 hqo.2
  have HFACT : Hid (∀ V : World, V.heap[q]? = w3.heap[q]? → V.heap[o]? = w3.heap[o]? → ((V.cell? ⟨q, 0, none⟩ = some (.int .i64 b) ∧ V.cell? ⟨q, 1, none⟩ = some (.int .i64 st) ∧ V.cell? ⟨q, 2, none⟩ = some (.int .i64 tg) ∧ V.cell? ⟨q, 3, none⟩ = some (.int .i64 cu)) ∧ (V.cell? ⟨q, 4, none⟩ = some (.int .i64 io) ∧ V.cell? ⟨q, 5, none⟩ = some (.int .i64 ba) ∧ V.cell? ⟨q, 6, none⟩ = some (.int .i64 t0) ∧ V.cell? ⟨q, 7, none⟩ = some (.int .i64 t1)) ∧ V.cell? ⟨q, 8, none⟩ = some (.int .i64 t2) ∧ V.cell? ⟨q, 9, none⟩ = some (.int .i64 t3) ∧ V.cell? ⟨q, 10, none⟩ = some (.int .i64 t4) ∧ V.cell? ⟨q, 11, none⟩ = some (.int .i64 t5)) ∧ V.cell? ⟨o, 0, none⟩ = some (.int .u16 i) ∧ V.cell? ⟨o, 1, none⟩ = some (.int .u16 j)) := Lib.hid fun V e1 e2 => by
    have ho3 : V.heap[o]? = some (.cells #[.int .u16 i, .int .u16 j] 36 (0, 0)) := by rw [e2, ho, hb13.block _ (Array.getElem?_eq_some_iff.1 hr1).1]; exact hr1
    exact ⟨sup_cells (e1.trans hr3), cell_of_row _ _ _ _ _ _ ho3, cell_of_row _ _ _ _ _ _ ho3⟩
  have HQ : Hid (W.heap.size ≤ q ∧ q < w3.heap.size ∧ o = W.heap.size ∧ o < w3.heap.size) := Lib.hid ⟨hqo.1, hqo.2, ho, by rw [ho]; exact hol⟩
  have HW3 : Hid (Below W.heap.size W w3) := Lib.hid (hb1.trans (hb13.mono hb1.size))
  have HB3 : Hid (Below w.heap.size w w3) := Lib.hid (HBW.out.trans (hb13.mono HBW.out.size))
  have STEP : Hid (∀ V V' : World, Below w3.heap.size w3 V → Below V.heap.size V V' → Below w3.heap.size w3 V' ∧ ((V'.cell? ⟨q, 0, none⟩ = some (.int .i64 b) ∧ V'.cell? ⟨q, 1, none⟩ = some (.int .i64 st) ∧ V'.cell? ⟨q, 2, none⟩ = some (.int .i64 tg) ∧ V'.cell? ⟨q, 3, none⟩ = some (.int .i64 cu)) ∧ (V'.cell? ⟨q, 4, none⟩ = some (.int .i64 io) ∧ V'.cell? ⟨q, 5, none⟩ = some (.int .i64 ba) ∧ V'.cell? ⟨q, 6, none⟩ = some (.int .i64 t0) ∧ V'.cell? ⟨q, 7, none⟩ = some (.int .i64 t1)) ∧ V'.cell? ⟨q, 8, none⟩ = some (.int .i64 t2) ∧ V'.cell? ⟨q, 9, none⟩ = some (.int .i64 t3) ∧ V'.cell? ⟨q, 10, none⟩ = some (.int .i64 t4) ∧ V'.cell? ⟨q, 11, none⟩ = some (.int .i64 t5)) ∧ V'.cell? ⟨o, 0, none⟩ = some (.int .u16 i) ∧ V'.cell? ⟨o, 1, none⟩ = some (.int .u16 j)) := Lib.hid fun V V' h1 h2 => by
    have h3 := h1.trans (h2.mono h1.size)
    exact ⟨h3, HFACT.out _ (h3.block _ HQ.out.2.1) (h3.block _ HQ.out.2.2.2)⟩
  have hd0 : Below w3.heap.size w3 w3.drew := (Below.refl _ _).drew
  have s0 := (STEP.out _ _ (Below.refl _ _) hd0).2
  clear hr1 hb2 hb23 hr3 hw3 hb13 hqo hol hq0 hq ho KL KS KS2 hb1
  go_region_held3 (fun V => ((V.cell? ⟨q, 0, none⟩ = some (.int .i64 b) ∧ V.cell? ⟨q, 1, none⟩ = some (.int .i64 st) ∧ V.cell? ⟨q, 2, none⟩ = some (.int .i64 tg) ∧ V.cell? ⟨q, 3, none⟩ = some (.int .i64 cu)) ∧ (V.cell? ⟨q, 4, none⟩ = some (.int .i64 io) ∧ V.cell? ⟨q, 5, none⟩ = some (.int .i64 ba) ∧ V.cell? ⟨q, 6, none⟩ = some (.int .i64 t0) ∧ V.cell? ⟨q, 7, none⟩ = some (.int .i64 t1)) ∧ V.cell? ⟨q, 8, none⟩ = some (.int .i64 t2) ∧ V.cell? ⟨q, 9, none⟩ = some (.int .i64 t3) ∧ V.cell? ⟨q, 10, none⟩ = some (.int .i64 t4) ∧ V.cell? ⟨q, 11, none⟩ = some (.int .i64 t5)) ∧ V.cell? ⟨o, 0, none⟩ = some (.int .u16 i) ∧ V.cell? ⟨o, 1, none⟩ = some (.int .u16 j)) (first | exact s0 | exact s5 | exact s8) (first
    | (go_at_call 105; (with_reducible refine (KB.out _ (HB3.out.trans (hd0.mono HB3.out.size))).mono ?_); rintro e w' ⟨rfl, rfl⟩)
    | (go_at_call 119; refine (KL2.out _).mono ?_; rintro e w5 ⟨rfl, hu5⟩; obtain ⟨hb5, s5⟩ := STEP.out _ _ hd0 hu5; clear hu5)
    | (go_at_call 105; (with_reducible refine (KB.out _ (HB3.out.trans (hb5.mono HB3.out.size))).mono ?_); rintro e w' ⟨rfl, rfl⟩)
    | (go_at_call 118; (with_reducible refine (KT.out _ (HW3.out.trans (hb5.mono HW3.out.size))).mono ?_); rintro e w8 ⟨x, E, rfl, hr8⟩
       have s8 := HFACT.out w8 ((HRR.out _ _ _ _ _ HQ.out.1 (Nat.lt_of_lt_of_le HQ.out.2.1 hb5.size) hr8).trans (hb5.block _ HQ.out.2.1)) ((HRR.out _ _ _ _ _ (Nat.le_of_eq HQ.out.2.2.1.symm) (Nat.lt_of_lt_of_le HQ.out.2.2.2 hb5.size) hr8).trans (hb5.block _ HQ.out.2.2.2))))
  all_goals (go_wp2_with fail; go_ret2; exact ⟨x, E, w5, rfl, HW3.out.trans (hb5.mono HW3.out.size), hr8⟩)
end
def locX (x F : List Int) (i : Nat) : Int := if i < 10 then num x (3 + i) else if i = 138 then num x 13 else num F (i - 10)
def atX (i : Nat) : Int := if i = 138 then 65535 else (i : Int)
theorem atX_bd {i : Nat} (h : i < 139) : 0 ≤ atX i ∧ atX i ≤ 65535 := by unfold atX; split <;> omega
theorem atX_inj {i j : Nat} (hi : i < 139) (hj : j < 139) (h : atX i = atX j) : i = j := by unfold atX at h; split at h <;> split at h <;> omega
def OwAt (O : List (Int × Int)) (kk : Nat) (v : Int) (o : Int × Int) : Prop := (0 < v ∧ v < 64 * (kk : Int)) ∧ fixB v = false ∧ O.getD v.toNat (0, 0) = o
theorem OwAt.ne {O : List (Int × Int)} {kk : Nat} {v u : Int} {o q : Int × Int} (h : OwAt O kk v o) (k : OwAt O kk u q) (hne : o ≠ q) : v ≠ u := fun e => hne (by rw [← h.2.2, ← k.2.2, e])
theorem OwAt.set {O : List (Int × Int)} {kk : Nat} {v : Int} {o : Int × Int} (h : OwAt O kk v o) {f : Nat} (q : Int × Int) (hne : v.toNat ≠ f) : OwAt (O.set f q) kk v o :=
  ⟨h.1, h.2.1, by rw [getD_other _ _ _ hne]; exact h.2.2⟩
theorem num_set {x : List Int} {a : Nat} (ha : a < x.length) (v : Int) (b : Nat) : num (x.set a v) b = if b = a then v else num x b := by
  unfold num; exact getD_set _ _ _ _ _ ha
def cntX (f : Nat → Int) : Nat → Nat
  | 0 => 0
  | k + 1 => cntX f k + if f k ≠ 0 then 1 else 0
theorem cntX_same {f g : Nat → Int} : ∀ k, (∀ i, i < k → (f i ≠ 0 ↔ g i ≠ 0)) → cntX f k = cntX g k
  | 0, _ => rfl
  | k + 1, h => by
    rw [cntX, cntX, cntX_same k fun i hi => h i (by omega)]
    have := h k (by omega)
    by_cases e : f k = 0 <;> by_cases e' : g k = 0 <;> simp_all
theorem cntX_more {f g : Nat → Int} {i : Nat} (h0 : f i = 0) (h1 : g i ≠ 0) : ∀ k, i < k → (∀ j, j < k → j ≠ i → (f j ≠ 0 ↔ g j ≠ 0)) → cntX g k = cntX f k + 1
  | 0, h, _ => absurd h (Nat.not_lt_zero _)
  | k + 1, h, ho => by
    rw [cntX, cntX]
    by_cases e : i = k
    · subst e
      rw [cntX_same (f := g) (g := f) i fun j hj => (ho j (by omega) (by omega)).symm, if_pos h1, if_neg (by simp [h0])]
    · rw [cntX_more h0 h1 k (by omega) fun j hj => ho j (by omega)]
      have := ho k (by omega) (fun e' => e e'.symm)
      by_cases a : f k = 0 <;> by_cases b : g k = 0 <;> simp_all <;> omega
def usedX (x F : List Int) : Nat := cntX (locX x F) 139
structure Fils (Ex : Nat → Nat → Prop) (G : List (List Int)) (S : List Int) (N : List (List Int)) (O : List (Int × Int)) (kk : Nat) (F : Nat → List Int) : Prop where
  fl : ∀ n, (F n).length = 128 ∧ locS (F n) = true
  m0 : ∀ n, 1 ≤ n → n < 48 → num (N.getD n []) 13 = 0 → F n = List.replicate 128 0
  m1 : ∀ n, 1 ≤ n → n < 48 → num (N.getD n []) 13 ≠ 0 → G.getD (num (N.getD n []) 13).toNat [] = mapS (F n)
  ow : ∀ n i, 1 ≤ n → n < 48 → i < 139 → ¬ Ex n i → locX (N.getD n []) (F n) i ≠ 0 → OwAt O kk (locX (N.getD n []) (F n) i) ((n : Int), atX i)
  tb : ∀ t, t < 6 → O.getD (tabAt S t) (0, 0) = (65534, (t : Int))
def noEx : Nat → Nat → Prop := fun _ _ => False
section
variable {Ex : Nat → Nat → Prop} {G : List (List Int)} {S : List Int} {N : List (List Int)} {O : List (Int × Int)} {kk : Nat} {F : Nat → List Int}
theorem locX_map (x F : List Int) : locX x F 138 = num x 13 := rfl
theorem Fils.map (h : Fils Ex G S N O kk F) {n : Nat} (h1 : 1 ≤ n) (h48 : n < 48) (hE : ¬ Ex n 138) (hm : num (N.getD n []) 13 ≠ 0) : OwAt O kk (num (N.getD n []) 13) ((n : Int), 65535) := h.ow n 138 h1 h48 (by decide) hE hm
theorem owned_free {i j : Int} (hi : i ≠ 0) {v : Int} (h : OwAt O kk v (i, j)) : freeJ O v.toNat = false := by
  unfold freeJ; rw [h.2.2]; exact decide_eq_false hi
theorem Fils.take (h : Fils noEx G S N O kk F) {f : Nat} (hf : freeJ O f = true) (hk : f < 64 * kk) (h12 : kk ≤ 12) (q : Int × Int) : Fils noEx (putG G (f / 64) (grO (O.set f q) (f / 64))) S N (O.set f q) kk F := by
  have hne : ∀ {i j v : Int}, i ≠ 0 → OwAt O kk v (i, j) → v.toNat ≠ f := fun hi hv e => by
    have := owned_free hi hv; rw [e, hf] at this; cases this
  refine ⟨h.fl, h.m0, fun n h1 h48 hm => ?_, fun n i h1 h48 hi hE hl => ?_, fun t ht => ?_⟩
  · have ho := h.map h1 h48 id hm
    have hx := dscN_fix (show f / 64 < 12 by omega)
    have e0 : (((num (N.getD n []) 13).toNat : Nat) : Int) = num (N.getD n []) 13 := by have := ho.1; omega
    have a1 : (num (N.getD n []) 13).toNat ≠ dscN (f / 64) := fun e => by
      have := ho.2.1; rw [← e0, e, hx.1] at this; cases this
    have a2 : (num (N.getD n []) 13).toNat ≠ dscN (f / 64) + 1 := fun e => by
      have := ho.2.1; rw [← e0, e, hx.2.1] at this; cases this
    unfold Go.Proofs.YtaakepjgpnaecaaGreat.putG
    rw [getD_other _ _ _ a1, getD_other _ _ _ a2]
    exact h.m1 n h1 h48 hm
  · have ho := h.ow n i h1 h48 hi hE hl
    exact ho.set q (hne (by omega) ho)
  · rw [getD_other _ _ _ fun e => ?_]
    · exact h.tb t ht
    · have := h.tb t ht
      rw [e] at this
      unfold freeJ at hf
      rw [this] at hf
      cases of_decide_eq_true hf
theorem Fils.give (h : Fils noEx G S N O kk F) {n i : Nat} (h1 : 1 ≤ n) (h48 : n < 48) (hi : i < 139) (h12 : kk ≤ 12) {f : Nat} (hl : locX (N.getD n []) (F n) i = (f : Int)) (h0 : f ≠ 0) (q : Int × Int) :
    Fils (fun a b => a = n ∧ b = i) (putG G (f / 64) (grO (O.set f q) (f / 64))) S N (O.set f q) kk F := by
  have hv := h.ow n i h1 h48 hi id (by rw [hl]; omega)
  rw [hl] at hv
  have hne : ∀ {v : Int} {o : Int × Int}, OwAt O kk v o → o ≠ ((n : Int), atX i) → v.toNat ≠ f := fun ho hq e => by
    have := ho.ne hv hq
    have := ho.1
    omega
  have hk : f < 64 * kk := by have := hv.1; omega
  refine ⟨h.fl, h.m0, fun m k1 k48 hm => ?_, fun m j k1 k48 hj hE hl2 => ?_, fun t ht => ?_⟩
  · have ho := h.map k1 k48 id hm
    have hx := dscN_fix (show f / 64 < 12 by omega)
    have e0 : (((num (N.getD m []) 13).toNat : Nat) : Int) = num (N.getD m []) 13 := by have := ho.1; omega
    have a1 : (num (N.getD m []) 13).toNat ≠ dscN (f / 64) := fun e => by
      have := ho.2.1; rw [← e0, e, hx.1] at this; cases this
    have a2 : (num (N.getD m []) 13).toNat ≠ dscN (f / 64) + 1 := fun e => by
      have := ho.2.1; rw [← e0, e, hx.2.1] at this; cases this
    unfold Go.Proofs.YtaakepjgpnaecaaGreat.putG
    rw [getD_other _ _ _ a1, getD_other _ _ _ a2]
    exact h.m1 m k1 k48 hm
  · have ho := h.ow m j k1 k48 hj id hl2
    refine ho.set q (hne ho fun e => hE ?_)
    have e1 := (Prod.mk.inj e).1
    have e2 := atX_inj hj hi (Prod.mk.inj e).2
    exact ⟨by omega, e2⟩
  · rw [getD_other _ _ _ fun e => ?_]
    · exact h.tb t ht
    · have h3 := h.tb t ht
      have h4 := hv.2.2
      rw [Int.toNat_natCast, ← e, h3] at h4
      have := (Prod.mk.inj h4).1
      omega
theorem Fils.data (h : Fils Ex G S N O kk F) {f : Nat} (hf : ∀ n, 1 ≤ n → n < 48 → num (N.getD n []) 13 ≠ 0 → (num (N.getD n []) 13).toNat ≠ f) (Z : List Int) : Fils Ex (G.set f Z) S N O kk F :=
  ⟨h.fl, h.m0, fun n h1 h48 hm => by rw [getD_other _ _ _ (hf n h1 h48 hm)]; exact h.m1 n h1 h48 hm, h.ow, h.tb⟩
theorem getD_n {N : List (List Int)} {n : Nat} (hn : n < N.length) (y : List Int) (m : Nat) : (N.set n y).getD m [] = if m = n then y else N.getD m [] := getD_set _ _ _ _ _ hn
theorem Fils.node (h : Fils Ex G S N O kk F) {n : Nat} (h1 : 1 ≤ n) (h48 : n < 48) (hl : N.length = 48) {y : List Int} (hE : ∀ a b, Ex a b → a = n)
    (hm0 : num y 13 = 0 → F n = List.replicate 128 0) (hm1 : num y 13 ≠ 0 → G.getD (num y 13).toNat [] = mapS (F n))
    (how : ∀ i, i < 139 → locX y (F n) i ≠ 0 → OwAt O kk (locX y (F n) i) ((n : Int), atX i)) (E : List Int) : Fils noEx (G.set (tabAt S (n / 8)) E) S (N.set n y) O kk F := by
  have hn : n < N.length := by omega
  have htb := h.tb (n / 8) (by omega)
  have hne : ∀ {v i j : Int}, i < 48 → OwAt O kk v (i, j) → v.toNat ≠ tabAt S (n / 8) := fun hi ho e => by
    have := ho.2.2
    rw [e, htb] at this
    have := (Prod.mk.inj this).1
    omega
  refine ⟨h.fl, fun m k1 k48 => ?_, fun m k1 k48 => ?_, fun m i k1 k48 hi _ => ?_, h.tb⟩
  · rw [getD_n hn]; split
    · next e => rw [e]; exact hm0
    · exact h.m0 m k1 k48
  · rw [getD_n hn]; split
    · next e => rw [e]; exact fun hz => by rw [getD_other _ _ _ (show (num y 13).toNat ≠ tabAt S (n / 8) from hne (by omega) (how 138 (by decide) hz))]; exact hm1 hz
    · next e => exact fun hz => by rw [getD_other _ _ _ (hne (by omega) (h.map k1 k48 (fun hx => e (hE _ _ hx)) hz))]; exact h.m1 m k1 k48 hz
  · rw [getD_n hn]; split
    · next e => rw [e]; exact how i hi
    · next e => exact h.ow m i k1 k48 hi fun hx => e (hE _ _ hx)
def setF (F : Nat → List Int) (n : Nat) (L : List Int) : Nat → List Int := fun a => if a = n then L else F a
theorem setF_at (F : Nat → List Int) (n : Nat) (L : List Int) : setF F n L n = L := if_pos rfl
theorem setF_ne (F : Nat → List Int) {n m : Nat} (h : m ≠ n) (L : List Int) : setF F n L m = F m := if_neg h
theorem Fils.far (h : Fils Ex G S N O kk F) {n : Nat} (h1 : 1 ≤ n) (h48 : n < 48) {m : Nat} (hm : num (N.getD n []) 13 = (m : Int)) (hm0 : m ≠ 0) (hmE : ¬ Ex n 138) (hG : m < G.length) {L : List Int} (hL : L.length = 128) (hf : locS L = true) (hE : ∀ a b, Ex a b → a = n)
    (how : ∀ i, 10 ≤ i → i < 138 → num L (i - 10) ≠ 0 → OwAt O kk (num L (i - 10)) ((n : Int), atX i)) (hEd : ∀ i, i < 10 → ¬ Ex n i) : Fils noEx (G.set m (mapS L)) S N O kk (setF F n L) := by
  have hz : num (N.getD n []) 13 ≠ 0 := by rw [hm]; omega
  have hmo := h.map h1 h48 hmE hz
  refine ⟨fun a => ?_, fun a k1 k48 => ?_, fun a k1 k48 => ?_, fun a i k1 k48 hi _ => ?_, h.tb⟩
  · unfold setF; split
    · exact ⟨hL, hf⟩
    · exact h.fl a
  · unfold setF; split
    · next e => rw [e]; exact fun h => absurd h hz
    · exact h.m0 a k1 k48
  · unfold setF; split
    · next e => rw [e, hm, Int.toNat_natCast]; exact fun _ => by rw [getD_set _ _ _ _ _ hG, if_pos rfl]
    · next e =>
        intro ha
        have ho := h.map k1 k48 (fun hx => e (hE _ _ hx)) ha
        rw [getD_other _ _ _ fun e2 => ?_]
        · exact h.m1 a k1 k48 ha
        · refine ho.ne hmo (fun e3 => ?_) (by have := ho.1; rw [hm]; omega)
          have := (Prod.mk.inj e3).1
          omega
  · unfold setF; split
    · next e =>
      rw [e]
      intro hl
      by_cases c : i < 10
      · have e1 : locX (N.getD n []) L i = locX (N.getD n []) (F n) i := by unfold locX; rw [if_pos c, if_pos c]
        rw [e1] at hl ⊢
        exact h.ow n i h1 h48 hi (hEd i c) hl
      · by_cases c2 : i = 138
        · subst c2; exact hmo
        · have e1 : locX (N.getD n []) L i = num L (i - 10) := by unfold locX; rw [if_neg c, if_neg c2]
          rw [e1] at hl ⊢
          exact how i (by omega) (by omega) hl
    · next e => exact h.ow a i k1 k48 hi fun hx => e (hE _ _ hx)
end
def DataK (O O' : List (Int × Int)) (G G' : List (List Int)) : Prop := ∀ v : Nat, 1 ≤ (O'.getD v (0, 0)).1 → (O'.getD v (0, 0)).1 < 48 → (O'.getD v (0, 0)).2 ≠ 65535 → O.getD v (0, 0) = O'.getD v (0, 0) → G'.getD v [] = G.getD v []
theorem DataK.refl (O : List (Int × Int)) (G : List (List Int)) : DataK O O G G := fun _ _ _ _ _ => rfl
def Less (O O' : List (Int × Int)) : Prop := ∀ v : Nat, O'.getD v (0, 0) = O.getD v (0, 0) ∨ O'.getD v (0, 0) = (0, 0)
theorem Less.refl (O : List (Int × Int)) : Less O O := fun _ => .inl rfl
theorem Less.trans {A B C : List (Int × Int)} (h : Less A B) (k : Less B C) : Less A C := fun v => by
  rcases k v with e | e
  · rw [e]; exact h v
  · exact .inr e
theorem DataK.less {A B C : List (Int × Int)} {G G' G'' : List (List Int)} (h : DataK A B G G') (k : DataK B C G' G'') (l : Less B C) : DataK A C G G'' := fun v a b c e => by
  have eb : B.getD v (0, 0) = C.getD v (0, 0) := by
    rcases l v with h1 | h1
    · exact h1.symm
    · rw [h1] at a; cases a
  rw [k v a b c eb, h v (by rw [eb]; exact a) (by rw [eb]; exact b) (by rw [eb]; exact c) (by rw [e, eb])]
end Go.Proofs.YtaakepjgpnaecaaGreat
