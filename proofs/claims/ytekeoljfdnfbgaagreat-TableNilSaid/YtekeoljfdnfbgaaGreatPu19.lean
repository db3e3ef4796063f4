/- What the law rests on: part 19. -/
import Derived.Test.YtekeoljfdnfbgaaGreatPu18
set_option linter.unusedVariables false
namespace Go.Proofs.YtekeoljfdnfbgaaGreat
set_option maxRecDepth 100000
open Go.RowKit BM
def kindI (k : Int) : List Int := [k, 0, 0, 0, 0, 0, 0, 0, 0, 0, 0, 0, 0, 0]
theorem kindI_frm {k : Int} (h : 1 ≤ k ∧ k ≤ 3) : frmI (kindI k) = true := by
  have : k = 1 ∨ k = 2 ∨ k = 3 := by omega
  rcases this with rfl | rfl | rfl <;> decide
theorem fsMake_bad {k : Int} (hk : k < 1 ∨ 3 < k) (f : Value) (W : World) : Calls Tryz.prog 14 #[f, .int .i64 k] W fun e w' => e = .returned (.tuple #[.int .i64 0, .int .i64 1]) ∧ W = w' := by
  have h1 : (k != 1) = true := by simp; omega
  have h2 : (k != 2) = true := by simp; omega
  have h3 : (k != 3) = true := by simp; omega
  clear hk
  go_enter Tryz.func14, Tryz.ntmps14
  go_wp2
  go_ret2
  exact ⟨rfl, rfl⟩
theorem fsGive_any {W : World} {bf : Nat} {p : Value} {n : Int} {R : Int → World → Prop} (hf : FsAt W bf p) (hK : Calls Tryz.prog 50 #[p, .int .i64 n] W fun e w' => ∃ E : Int, e = .returned (.int .i64 E) ∧ R E w') :
    Calls Tryz.prog 18 #[.pointer (some ⟨bf, 0, none⟩), .int .i64 n] W fun e w' => ∃ E : Int, e = .returned (.int .i64 E) ∧ R E w' := by
  have KB := Lib.hid (fsBlocks_of hf)
  have KG := Lib.hid hK
  clear hf hK
  go_enter Tryz.func18, Tryz.ntmps18
  go_wp2_with (first
    | (go_at_call 33; refine KB.out.mono ?_; rintro e w' ⟨rfl, rfl⟩)
    | (go_at_call 50; refine KG.out.mono ?_; rintro e w2 ⟨E, rfl, hr⟩))
  go_ret
  exact ⟨E, rfl, hr⟩
section
variable {w : World} {P : Nat → Prop} {d p : Value} {X : XSt} {S : List Int} {N : List (List Int)} {bf : Nat}
theorem fsMake_full (h : SInv w P d p X) (hf : FsAt w bf p) (hT : Tab X.cur S N) (hN : FullN N) {k : Int} (hk : 1 ≤ k ∧ k ≤ 3) {W : World} (hb : Below w.heap.size w W) :
    Calls Tryz.prog 14 #[.pointer (some ⟨bf, 0, none⟩), .int .i64 k] W fun e w' => e = .returned (.tuple #[.int .i64 0, .int .i64 13]) ∧ Below W.heap.size W w' := by
  have KF := Lib.hid ((fsFree_any h hf hT hb).mono fun e w' ⟨ho, hb⟩ => show e = Ending.returned (.tuple #[.int .i64 0, .int .i64 13]) ∧ Below W.heap.size W w' from ⟨ho.elim (fun ⟨f, h1, _⟩ => absurd h1.2.2.1 (hN f h1.1 h1.2.1)) fun h2 => h2.2, hb⟩)
  clear h hf hT hN hb
  have : k = 1 ∨ k = 2 ∨ k = 3 := by omega
  rcases this with rfl | rfl | rfl
  all_goals
    clear hk
    go_enter Tryz.func14, Tryz.ntmps14
    go_wp2_with (go_at_call 42; refine KF.out.mono ?_; rintro e w2 ⟨rfl, hb2⟩)
    go_ret2
    exact ⟨rfl, hb2⟩
theorem fsMake_yes (h : SInv w P d p X) (hw : X.wi = true) (hp : X.put.length < 37) (hf : FsAt w bf p) (hT : Tab X.call S N) {f : Nat} (hN : FreeAt N f) {k : Int} (hk : 1 ≤ k ∧ k ≤ 3) {W : World} (hb : Below w.heap.size w W) :
    Calls Tryz.prog 14 #[.pointer (some ⟨bf, 0, none⟩), .int .i64 k] W fun e w' => e = .returned (.tuple #[.int .i64 (f : Nat), .int .i64 0]) ∧ ∃ P', SInv w' P' d p (putI X S N f (kindI k)) ∧ Chg P P' W w' := by
  have hT' : Tab X.cur S N := by unfold XSt.cur; rw [if_pos hw]; exact hT
  have KF := Lib.hid ((fsFree_any h hf hT' hb).mono fun e w' ⟨ho, hb⟩ => show e = Ending.returned (.tuple #[.int .i64 (f : Nat), .int .i64 0]) ∧ Below W.heap.size W w' from ⟨ho.elim (fun ⟨g, h1, h2⟩ => by rw [h2, h1.one hN]) fun h2 => absurd hN.2.2.1 (h2.1 f hN.1 hN.2.1), hb⟩)
  obtain ⟨X', hX'⟩ : ∃ X', X' = putI X S N f (kindI k) := ⟨_, rfl⟩
  have KP : Hid (∀ V : World, Below w.heap.size w V → Calls Tryz.prog 16 #[.pointer (some ⟨bf, 0, none⟩), .int .i64 (f : Nat), .agg #[.int .i64 k, .int .i64 0, .int .i64 0, .int .i64 0, .int .i64 0, .int .i64 0, .int .i64 0, .int .i64 0, .int .i64 0, .int .i64 0, .int .i64 0, .int .i64 0, .int .i64 0, .int .i64 0]] V fun e w' => e = .returned (.int .i64 0) ∧ ∃ P', SInv w' P' d p X' ∧ Chg P P' V w') := Lib.hid fun V hv => by
    rw [hX']; exact fsPut_yes h hw hp hf hT hN.1 hN.2.1 (x := kindI k) rfl (kindI_frm hk) hv
  rw [← hX']
  have HB := Lib.hid hb
  clear h hf hT hT' hN hb hw hp hX'
  have : k = 1 ∨ k = 2 ∨ k = 3 := by omega
  rcases this with rfl | rfl | rfl
  all_goals
    clear hk
    go_enter Tryz.func14, Tryz.ntmps14
    go_wp2_with (first
      | (go_at_call 42; refine KF.out.mono ?_; rintro e w2 ⟨rfl, hb2⟩)
      | (go_at_call 16; refine (KP.out _ (HB.out.trans (hb2.mono HB.out.size))).mono ?_; rintro e w3 ⟨rfl, P3, hi3, hc3⟩))
    go_ret2
    exact ⟨rfl, P3, hi3, (Chg.of_below hb2).trans hc3⟩
theorem fsSetS_bad {L : List Int} (hL : L.length = 12) (hT : Top L) (hno : frmS L = false) (f : Value) (W : World) : Calls Tryz.prog 17 #[f, supV L] W fun e w' => e = .returned (.int .i64 1) ∧ Below W.heap.size W w' := by
  have hb1 := below_box W (supO L 49)
  have hr1 := heap_alloc_new W (supO L 49)
  obtain ⟨w1, hw1⟩ : ∃ w1, w1 = W.alloc (supO L 49) := ⟨_, rfl⟩
  rw [← hw1] at hb1 hr1
  have h1 : W.alloc (.cells (L.map (Value.int .i64)).toArray 49) = w1 := by rw [hw1]; rfl
  have H1 := Lib.hid h1
  have HR1 := Lib.hid hr1
  have KE := Lib.hid (sEnc_no hL hT hno)
  clear h1 hw1 hr1 hno hT
  show Calls Tryz.prog 17 #[f, .agg (L.map (Value.int .i64)).toArray] W _
  go_enter Tryz.func17, Tryz.ntmps17
  go_upto_region 1 with (fail)
  rw [H1.out]
  have hr2 := HR1.out
  go_wp2_with (first
    | (with_reducible refine wpList_loadS rfl (.tmp 3) rfl W.heap.size rfl L hL _ hr2 ?_)
    | (go_at_call 48; refine (KE.out _).mono ?_; rintro e w2 ⟨rfl, hb2⟩))
  go_ret
  exact ⟨rfl, hb1.trans (hb2.mono hb1.size)⟩
def putSup (X : XSt) (L : List Int) : XSt := { X with call := (X.call.set 0 (encS L)).set 63 (encS L), put := addS (addS X.put 0) 63 }
theorem addS_le (S : List Int) (n : Int) : (addS S n).length ≤ S.length + 1 := by unfold addS; split <;> simp
theorem fsSetS_yes (h : SInv w P d p X) (hw : X.wi = true) (hp : X.put.length ≤ 35) (h63 : 63 < X.is.length) (hf : FsAt w bf p) (hn : ¬ P bf) {L : List Int} (hL : L.length = 12) (hT : Top L) (hL2 : frmS L = true) {W : World} (hb : Below w.heap.size w W) :
    Calls Tryz.prog 17 #[.pointer (some ⟨bf, 0, none⟩), supV L] W fun e w' => e = .returned (.int .i64 0) ∧ ∃ P', SInv w' P' d p (putSup X L) ∧ Chg P P' W w' := by
  have hb1 := below_box W (supO L 49)
  have hr1 := heap_alloc_new W (supO L 49)
  obtain ⟨w1, hw1⟩ : ∃ w1, w1 = W.alloc (supO L 49) := ⟨_, rfl⟩
  rw [← hw1] at hb1 hr1
  have h1 : W.alloc (.cells (L.map (Value.int .i64)).toArray 49) = w1 := by rw [hw1]; rfl
  have H1 := Lib.hid h1
  have HR1 := Lib.hid hr1
  have hb01 := hb.trans (hb1.mono hb.size)
  have KE := Lib.hid (sEnc_is hL hT hL2)
  have KB := Lib.hid (fun (V : World) (hv : FsAt V bf p) => fsBlocks_of hv)
  have KC := Lib.hid gCopy_any
  obtain ⟨X1, hX1⟩ : ∃ X1 : XSt, X1 = { X with call := X.call.set 0 (encS L), put := addS X.put 0 } := ⟨_, rfl⟩
  obtain ⟨X2, hX2⟩ : ∃ X2, X2 = putSup X L := ⟨_, rfl⟩
  have hq := addS_le X.put 0
  have x1 := xPut_ok (X := X) (n := 0) (l := encS L) hw (by omega) (by omega) encS_len (by omega)
  have x2 := xPut_ok (X := X1) (n := 63) (l := encS L) (by rw [hX1]; exact hw) (by omega) (by rw [hX1]; show (63 : Int) < X.is.length; omega) encS_len (by rw [hX1]; show (addS X.put 0).length < 37; omega)
  rw [show ({ X with call := X.call.set (0 : Int).toNat (encS L), put := addS X.put 0 } : XSt) = X1 from hX1.symm] at x1
  rw [show ({ X1 with call := X1.call.set (63 : Int).toNat (encS L), put := addS X1.put 63 } : XSt) = X2 by rw [hX2, hX1]; rfl] at x2
  have KP1 : Hid (∀ (V : World) (u : Value), Below w.heap.size w V → BSl V u (encS L) → Calls Tryz.prog 47 #[p, .int .i64 0, u] V fun e w' => e = .returned (.int .i64 0) ∧ ∃ P', SInv w' P' d p X1 ∧ Chg P P' V w') := Lib.hid fun V u hv hu => by
    have := sPut_of (h.low hv) hu (n := 0) (by omega) (.inl (by decide))
    rw [x1] at this
    exact this
  have KP2 : Hid (∀ (V : World) (u : Value) (P2 : Nat → Prop), SInv V P2 d p X1 → BSl V u (encS L) → Calls Tryz.prog 47 #[p, .int .i64 63, u] V fun e w' => e = .returned (.int .i64 0) ∧ ∃ P', SInv w' P' d p X2 ∧ Chg P2 P' V w') := Lib.hid fun V u P2 h2 hu => by
    have := sPut_of h2 hu (n := 63) (by omega) (.inr (by decide))
    rw [x2] at this
    exact this
  rw [← hX2]
  have HLT := Lib.hid h.lt
  have HF := Lib.hid hf
  have HN := Lib.hid hn
  have HB := Lib.hid hb01
  clear h1 hw1 hr1 hL2 hT h hw hp h63 hf hn hb hb01 hX1 hX2 hq x1 x2
  show Calls Tryz.prog 17 #[.pointer (some ⟨bf, 0, none⟩), .agg (L.map (Value.int .i64)).toArray] W _
  go_enter Tryz.func17, Tryz.ntmps17
  go_upto_region 1 with (fail)
  rw [H1.out]
  have hr2 := HR1.out
  go_wp2_with (first
    | (with_reducible refine wpList_loadS rfl (.tmp 3) rfl W.heap.size rfl L hL _ hr2 ?_)
    | (go_at_call 48; refine (KE.out _).mono ?_; rintro e w2 ⟨u, rfl, hu, hb2⟩
       have hb12 := HB.out.trans (hb2.mono HB.out.size)
       have hf2 := HF.out.low hb12
       have hfar := hu.far (P := P) (fun i hi => Nat.lt_of_lt_of_le (HLT.out i hi) HB.out.size))
    | (go_at_call 33; (with_reducible refine (KB.out _ hf2).mono ?_); rintro e w' ⟨rfl, rfl⟩)
    | (go_at_call 47; (with_reducible refine (KP1.out _ _ hb12 hu.bsl).mono ?_); rintro e w3 ⟨rfl, P3, hi3, hc3⟩
       have hu3 := (hu.bsl.chg hfar hc3).1
       have hf3 := (hf2.chg hc3 HN.out).1)
    | (go_at_call 33; (with_reducible refine (KB.out _ hf3).mono ?_); rintro e w' ⟨rfl, rfl⟩)
    | (go_at_call 49; refine (KC.out _).mono ?_; rintro e w' ⟨rfl, rfl⟩)
    | (go_at_call 47; (with_reducible refine (KP2.out _ _ _ hi3 hu3).mono ?_); rintro e w4 ⟨rfl, P4, hi4, hc4⟩))
  go_ret
  exact ⟨rfl, P4, hi4, ((Chg.of_below (hb1.trans (hb2.mono hb1.size))).trans hc3).trans hc4⟩
theorem list12_ex {L : List Int} (h : L.length = 12) : ∃ b  st  tg  cu  io  ba  t0  t1  t2  t3  t4  t5 : Int, L = [b, st, tg, cu, io, ba, t0, t1, t2, t3, t4, t5] := by
  match L, h with
  | [b, st, tg, cu, io, ba, t0, t1, t2, t3, t4, t5], _ => exact ⟨b, st, tg, cu, io, ba, t0, t1, t2, t3, t4, t5, rfl⟩
set_option maxHeartbeats 4000000 in
theorem fsTake_any (h : SInv w P d p X) (hf : FsAt w bf p) (hT : Tab X.cur S N) (hTop : Top S) {goal i j : Int} {W : World} (hb : Below w.heap.size w W) {R : Int → Int → World → World → Prop}
    (hR : ∀ x E V w' b, W.heap.size ≤ b → b < V.heap.size → R x E V w' → w'.heap[b]? = V.heap[b]?)
    (hK : ∀ V, Below W.heap.size W V → Calls Tryz.prog 43 #[p, .int .i64 (num S 0), .int .i64 (limS S), .int .i64 goal, .agg #[.int .u16 i, .int .u16 j]] V fun e w' => ∃ x E : Int, e = .returned (.tuple #[.int .i64 x, .int .i64 E]) ∧ R x E V w') :
    Calls Tryz.prog 15 #[.pointer (some ⟨bf, 0, none⟩), .int .i64 goal, .agg #[.int .u16 i, .int .u16 j]] W fun e w' => ∃ (x E : Int) (V : World), e = .returned (.tuple #[.int .i64 x, .int .i64 E]) ∧ Below W.heap.size W V ∧ R x E V w' := by
  obtain ⟨o, ho⟩ : ∃ o, o = W.heap.size := ⟨_, rfl⟩
  have hb1 := below_box W (.cells #[.int .u16 i, .int .u16 j] 38)
  have hr1 := heap_alloc_new W (.cells #[.int .u16 i, .int .u16 j] 38)
  obtain ⟨w1, hw1⟩ : ∃ w1, w1 = W.alloc (.cells #[.int .u16 i, .int .u16 j] 38) := ⟨_, rfl⟩
  rw [← hw1] at hb1 hr1
  have H1 := Lib.hid hw1.symm
  have hb01 := hb.trans (hb1.mono hb.size)
  have KS := Lib.hid (fsSuper_of h hf hT hb01)
  have KB := Lib.hid (fun (V : World) (hv : Below w.heap.size w V) => fsBlocks_of (hf.low hv))
  have KL := Lib.hid (sLimit_of hT.s12 hTop)
  have h12 := hT.s12
  have HBW := Lib.hid hb01
  have HRR := Lib.hid hR
  clear h hf hT hTop hb hb01 hw1
  obtain ⟨b, st, tg, cu, io, ba, t0, t1, t2, t3, t4, t5, rfl⟩ := list12_ex h12
  obtain ⟨l, hll⟩ : ∃ l, l = limS [b, st, tg, cu, io, ba, t0, t1, t2, t3, t4, t5] := ⟨_, rfl⟩
  rw [← hll] at hK KL
  have KT : Hid (∀ V, Below W.heap.size W V → Calls Tryz.prog 43 #[p, .int .i64 b, .int .i64 l, .int .i64 goal, .agg #[.int .u16 i, .int .u16 j]] V fun e w' => ∃ x E : Int, e = .returned (.tuple #[.int .i64 x, .int .i64 E]) ∧ R x E V w') := Lib.hid hK
  clear hll hK hR
  have KL2 : Hid (∀ V : World, Calls Tryz.prog 44 #[.agg #[.int .i64 b, .int .i64 st, .int .i64 tg, .int .i64 cu, .int .i64 io, .int .i64 ba, .int .i64 t0, .int .i64 t1, .int .i64 t2, .int .i64 t3, .int .i64 t4, .int .i64 t5]] V fun e w' => e = .returned (.int .i64 l) ∧ Below V.heap.size V w') := KL
  have KS2 : Hid (Calls Tryz.prog 11 #[.pointer (some ⟨bf, 0, none⟩)] w1 fun e w' => e = Ending.returned (.tuple #[.agg #[.int .i64 b, .int .i64 st, .int .i64 tg, .int .i64 cu, .int .i64 io, .int .i64 ba, .int .i64 t0, .int .i64 t1, .int .i64 t2, .int .i64 t3, .int .i64 t4, .int .i64 t5], .int .i64 0]) ∧ Below w1.heap.size w1 w') := KS
  go_enter Tryz.func15, Tryz.ntmps15
  go_upto_region 4 with (go_at_call 11; rw [H1.out]; refine KS2.out.mono ?_; rintro e w2 ⟨rfl, hb2⟩)
  have hb23 := below_box w2 (supO [b, st, tg, cu, io, ba, t0, t1, t2, t3, t4, t5] 49)
  have hr3 := heap_alloc_new w2 (supO [b, st, tg, cu, io, ba, t0, t1, t2, t3, t4, t5] 49)
  obtain ⟨w3, hw3⟩ : ∃ w3, w3 = w2.alloc (supO [b, st, tg, cu, io, ba, t0, t1, t2, t3, t4, t5] 49) := ⟨_, rfl⟩
  rw [← hw3] at hb23 hr3
  rw [show w2.alloc (.cells #[.int .i64 b, .int .i64 st, .int .i64 tg, .int .i64 cu, .int .i64 io, .int .i64 ba, .int .i64 t0, .int .i64 t1, .int .i64 t2, .int .i64 t3, .int .i64 t4, .int .i64 t5] 49) = w3 from hw3.symm, ← ho]
  have hq0 := Nat.le_trans hb1.size hb2.size
  obtain ⟨q, hq⟩ : ∃ q, q = w2.heap.size := ⟨_, rfl⟩
  rw [← hq] at hr3 hq0 ⊢
  have hb13 := hb2.trans (hb23.mono hb2.size)
  have hqo : W.heap.size ≤ q ∧ q < w3.heap.size := ⟨hq0, (Array.getElem?_eq_some_iff.1 hr3).1⟩
  have hol : W.heap.size < w3.heap.size := Nat.lt_of_le_of_lt hqo.1 hqo.2
  have HFACT : Hid (∀ V : World, V.heap[q]? = w3.heap[q]? → V.heap[o]? = w3.heap[o]? → ((V.cell? ⟨q, 0, none⟩ = some (.int .i64 b) ∧ V.cell? ⟨q, 1, none⟩ = some (.int .i64 st) ∧ V.cell? ⟨q, 2, none⟩ = some (.int .i64 tg) ∧ V.cell? ⟨q, 3, none⟩ = some (.int .i64 cu)) ∧ (V.cell? ⟨q, 4, none⟩ = some (.int .i64 io) ∧ V.cell? ⟨q, 5, none⟩ = some (.int .i64 ba) ∧ V.cell? ⟨q, 6, none⟩ = some (.int .i64 t0) ∧ V.cell? ⟨q, 7, none⟩ = some (.int .i64 t1)) ∧ V.cell? ⟨q, 8, none⟩ = some (.int .i64 t2) ∧ V.cell? ⟨q, 9, none⟩ = some (.int .i64 t3) ∧ V.cell? ⟨q, 10, none⟩ = some (.int .i64 t4) ∧ V.cell? ⟨q, 11, none⟩ = some (.int .i64 t5)) ∧ V.cell? ⟨o, 0, none⟩ = some (.int .u16 i) ∧ V.cell? ⟨o, 1, none⟩ = some (.int .u16 j)) := Lib.hid fun V e1 e2 => by
    have ho3 : V.heap[o]? = some (.cells #[.int .u16 i, .int .u16 j] 38 (0, 0)) := by rw [e2, ho, hb13.block _ (Array.getElem?_eq_some_iff.1 hr1).1]; exact hr1
    exact ⟨sup_cells (e1.trans hr3), cell_of_row _ _ _ _ _ _ ho3, cell_of_row _ _ _ _ _ _ ho3⟩
  have HQ : Hid (W.heap.size ≤ q ∧ q < w3.heap.size ∧ o = W.heap.size ∧ o < w3.heap.size) := Lib.hid ⟨hqo.1, hqo.2, ho, by rw [ho]; exact hol⟩
  have HW3 : Hid (Below W.heap.size W w3) := Lib.hid (hb1.trans (hb13.mono hb1.size))
  have HB3 : Hid (Below w.heap.size w w3) := Lib.hid (HBW.out.trans (hb13.mono HBW.out.size))
  have STEP : Hid (∀ V V' : World, Below w3.heap.size w3 V → Below V.heap.size V V' → Below w3.heap.size w3 V' ∧ ((V'.cell? ⟨q, 0, none⟩ = some (.int .i64 b) ∧ V'.cell? ⟨q, 1, none⟩ = some (.int .i64 st) ∧ V'.cell? ⟨q, 2, none⟩ = some (.int .i64 tg) ∧ V'.cell? ⟨q, 3, none⟩ = some (.int .i64 cu)) ∧ (V'.cell? ⟨q, 4, none⟩ = some (.int .i64 io) ∧ V'.cell? ⟨q, 5, none⟩ = some (.int .i64 ba) ∧ V'.cell? ⟨q, 6, none⟩ = some (.int .i64 t0) ∧ V'.cell? ⟨q, 7, none⟩ = some (.int .i64 t1)) ∧ V'.cell? ⟨q, 8, none⟩ = some (.int .i64 t2) ∧ V'.cell? ⟨q, 9, none⟩ = some (.int .i64 t3) ∧ V'.cell? ⟨q, 10, none⟩ = some (.int .i64 t4) ∧ V'.cell? ⟨q, 11, none⟩ = some (.int .i64 t5)) ∧ V'.cell? ⟨o, 0, none⟩ = some (.int .u16 i) ∧ V'.cell? ⟨o, 1, none⟩ = some (.int .u16 j)) := Lib.hid fun V V' h1 h2 => by
    have h3 := h1.trans (h2.mono h1.size)
    exact ⟨h3, HFACT.out _ (h3.block _ HQ.out.2.1) (h3.block _ HQ.out.2.2.2)⟩
  have hd0 : Below w3.heap.size w3 w3.drew := (Below.refl _ _).drew
  have s0 := (STEP.out _ _ (Below.refl _ _) hd0).2
  clear hr1 hb2 hb23 hr3 hw3 hb13 hqo hol hq0 hq ho KL KS KS2 hb1
  go_region_held3 (fun V => ((V.cell? ⟨q, 0, none⟩ = some (.int .i64 b) ∧ V.cell? ⟨q, 1, none⟩ = some (.int .i64 st) ∧ V.cell? ⟨q, 2, none⟩ = some (.int .i64 tg) ∧ V.cell? ⟨q, 3, none⟩ = some (.int .i64 cu)) ∧ (V.cell? ⟨q, 4, none⟩ = some (.int .i64 io) ∧ V.cell? ⟨q, 5, none⟩ = some (.int .i64 ba) ∧ V.cell? ⟨q, 6, none⟩ = some (.int .i64 t0) ∧ V.cell? ⟨q, 7, none⟩ = some (.int .i64 t1)) ∧ V.cell? ⟨q, 8, none⟩ = some (.int .i64 t2) ∧ V.cell? ⟨q, 9, none⟩ = some (.int .i64 t3) ∧ V.cell? ⟨q, 10, none⟩ = some (.int .i64 t4) ∧ V.cell? ⟨q, 11, none⟩ = some (.int .i64 t5)) ∧ V.cell? ⟨o, 0, none⟩ = some (.int .u16 i) ∧ V.cell? ⟨o, 1, none⟩ = some (.int .u16 j)) (first | exact s0 | exact s5 | exact s8) (first
    | (go_at_call 33; (with_reducible refine (KB.out _ (HB3.out.trans (hd0.mono HB3.out.size))).mono ?_); rintro e w' ⟨rfl, rfl⟩)
    | (go_at_call 44; refine (KL2.out _).mono ?_; rintro e w5 ⟨rfl, hu5⟩; obtain ⟨hb5, s5⟩ := STEP.out _ _ hd0 hu5; clear hu5)
    | (go_at_call 33; (with_reducible refine (KB.out _ (HB3.out.trans (hb5.mono HB3.out.size))).mono ?_); rintro e w' ⟨rfl, rfl⟩)
    | (go_at_call 43; (with_reducible refine (KT.out _ (HW3.out.trans (hb5.mono HW3.out.size))).mono ?_); rintro e w8 ⟨x, E, rfl, hr8⟩
       have s8 := HFACT.out w8 ((HRR.out _ _ _ _ _ HQ.out.1 (Nat.lt_of_lt_of_le HQ.out.2.1 hb5.size) hr8).trans (hb5.block _ HQ.out.2.1)) ((HRR.out _ _ _ _ _ (Nat.le_of_eq HQ.out.2.2.1.symm) (Nat.lt_of_lt_of_le HQ.out.2.2.2 hb5.size) hr8).trans (hb5.block _ HQ.out.2.2.2))))
  all_goals (go_wp2_with fail; go_ret2; exact ⟨x, E, w5, rfl, HW3.out.trans (hb5.mono HW3.out.size), hr8⟩)
end
end Go.Proofs.YtekeoljfdnfbgaaGreat
namespace Go.Proofs.YtekeoljfdnfbgaaGreat
set_option maxRecDepth 100000
open Go.RowKit
section
variable {w : World} {M : Nat → Prop} {p : Value} {n : Int} {O : List (Int × Int)}
theorem rSpGive_no (h : RSp w M p n O) (h0 : 0 < O.length) (hO : O.length ≤ 100000) {q : Int} (hq : -9223372036854775808 ≤ q ∧ q ≤ 9223372036854775807) (hno : q < 0 ∨ (O.length : Int) ≤ q ∨ fixB q = true ∨ freeJ O q.toNat = true) : Calls Tryz.prog 32 #[p, .int .i64 q] w fun e w' => e = .returned (.int .i64 1) ∧ w = w' := by
  have KF := Lib.hid (rFixed_any q hq.2 w)
  obtain ⟨bp, g, off, cap, rfl, c0, c1, hc⟩ := h.cells h0
  have HC := Lib.hid hc
  clear h hc
  by_cases h1 : q < 0
  · clear hno hO h0
    go_enter Tryz.func32, Tryz.ntmps32
    go_wp2
    go_ret
    exact ⟨rfl, rfl⟩
  by_cases h2 : (O.length : Int) ≤ q
  · obtain ⟨m, hm⟩ : ∃ m, m = O.length := ⟨_, rfl⟩
    rw [← hm] at c1 h2
    clear hno hO h0 hm
    go_enter Tryz.func32, Tryz.ntmps32
    go_wp2
    go_ret
    exact ⟨rfl, rfl⟩
  obtain ⟨k, rfl⟩ : ∃ k : Nat, q = k := ⟨q.toNat, by omega⟩
  obtain ⟨d0, d1⟩ := HC.out k (by omega)
  obtain ⟨x, hx⟩ : ∃ x, x = (O.getD k (0, 0)).1 := ⟨_, rfl⟩
  have HF : freeJ O k = decide (x = 0) := by unfold freeJ; rw [hx]
  rw [Int.toNat_natCast, HF] at hno
  rw [← hx] at d0
  obtain ⟨m, hm⟩ : ∃ m, m = O.length := ⟨_, rfl⟩
  rw [← hm] at c1 h2 h0 hO hno
  cases hfx : fixB (k : Int)
  · rw [hfx] at KF hno
    have hx0 : x = 0 := by
      rcases hno with h | h | h | h
      · omega
      · omega
      · cases h
      · simpa using h
    subst hx0
    clear hno hm hx HF hfx
    go_enter Tryz.func32, Tryz.ntmps32
    go_wp2_with (go_at_call 74; (with_reducible refine KF.out.mono ?_); rintro e w' ⟨rfl, rfl⟩)
    go_ret
    exact ⟨rfl, rfl⟩
  · rw [hfx] at KF
    clear hno hm hx HF hfx
    go_enter Tryz.func32, Tryz.ntmps32
    go_wp2_with (go_at_call 74; (with_reducible refine KF.out.mono ?_); rintro e w' ⟨rfl, rfl⟩)
    go_ret
    exact ⟨rfl, rfl⟩
theorem rSpGive_yes (h : RSp w M p n O) (hO : O.length ≤ 100000) {k : Nat} (hk : k < O.length) (hx : fixB (k : Int) = false) (hf : freeJ O k = false) : Calls Tryz.prog 32 #[p, .int .i64 k] w fun e w' => e = .returned (.int .i64 0) ∧ RSp w' M p n (O.set k (0, 0)) ∧ Chg M M w w' := by
  have KF := Lib.hid (rFixed_any (k : Int) (by omega) w)
  rw [hx] at KF
  obtain ⟨bp, g, off, cap, e1, c0, c1, hc⟩ := h.cells (by omega)
  obtain ⟨b, g', cap', cur, rfl, hb, hg, ht, hnc, hcm, hcs, hB, hM⟩ := h.row (by omega)
  obtain rfl : b = bp := by injection e1 with e1; injection e1 with e1; injection e1 with e1
  have c1' : w.cell? ⟨b, 1, none⟩ = some (.slice (some ⟨g', 0, none⟩) O.length cap') := by rw [cell_of_row _ _ _ _ _ _ hb]; rfl
  obtain ⟨rfl, rfl, rfl⟩ : g = g' ∧ off = 0 ∧ cap = cap' := by
    rw [c1'] at c1
    injection c1 with c1
    injection c1 with a1 _ a3
    injection a1 with a1
    injection a1 with a1 a2
    exact ⟨a1.symm, a2.symm, a3.symm⟩
  obtain ⟨d0, d1⟩ := hc k hk
  rw [Nat.zero_add] at d0 d1
  obtain ⟨x, hxx⟩ : ∃ x, x = (O.getD k (0, 0)).1 := ⟨_, rfl⟩
  have HF : freeJ O k = decide (x = 0) := by unfold freeJ; rw [hxx]
  rw [← hxx] at d0
  rw [HF] at hf
  have hx0 : (x == 0) = false := by simpa using hf
  have HFIN := Lib.hid (fun (w' : World) (cur' : Array Value) (hw : Wrote w w' g) (hg' : w'.heap[g]? = some (.cells cur' 38 (0, 0))) (hs : cur'.size = cur.size) (ht' : cur'.toList.take (O.length * 2) = ownC (O.set k (0, 0))) => RSp.stored hb hg hnc hcm hB hM hw hg' (hs.trans hcs) ht' ⟨by decide, by decide⟩)
  have HG := Lib.hid hg
  have HT := Lib.hid ht
  have HS : Hid (O.length * 2 ≤ cur.size) := Lib.hid (by omega)
  have HK := Lib.hid hk
  obtain ⟨m, hm⟩ : ∃ m, m = O.length := ⟨_, rfl⟩
  have hkm : k < m := by omega
  have hm1 : m ≤ 100000 := by omega
  rw [← hm] at c1
  clear hm hxx HF hf hb hg ht hnc hcm hcs hB hM hc h hO hk hx e1 c1'
  go_enter Tryz.func32, Tryz.ntmps32
  go_wp2_with (first
    | (go_at_call 74; (with_reducible refine KF.out.mono ?_); rintro e w' ⟨rfl, rfl⟩)
    | (with_reducible refine wpList_store_owp rfl (.tmp 37) (.tmp 36) rfl g k O cur 0 0 rfl rfl HG.out HT.out HS.out HK.out ?_; intro w2 cur2 hw2 hg2 hs2 ht2
       have HH := Lib.hid (HFIN.out w2 cur2 hw2 hg2 hs2 ht2)
       clear hw2 hg2 hs2 ht2))
  go_ret
  exact ⟨rfl, HH.out.1, HH.out.2⟩
end
theorem step_store_owp {ops : Array Oper} {o : Oper} {a : Act} {w : World} {K : Act → World → Prop} {Q : Exit → Act → World → Prop} {E : Prop} (hgd : o.guard = none) (x y : Operand) (ho : o.op = .store 38 x y)
    (g k : Nat) (O : List (Int × Int)) (cur : Array Value) (i j : Int) (hx : a.eval x = .pointer (some ⟨g, k * 2, none⟩)) (hy : a.eval y = .agg #[.int .u16 i, .int .u16 j])
    (hg : w.heap[g]? = some (.cells cur 38 (0, 0))) (hc : cur.toList.take (O.length * 2) = ownC O) (hs : O.length * 2 ≤ cur.size) (hk : k < O.length)
    (h : ∀ w' cur', Wrote w w' g → w'.heap[g]? = some (.cells cur' 38 (0, 0)) → cur'.size = cur.size → cur'.toList.take (O.length * 2) = ownC (O.set k (i, j)) → K (a.put o.dst undef) w') : if Region.wanted o (yielded ops a.tmps) = true then Oper.wp Tryz.prog o a w K Q else E := by
  rw [if_pos (by simp [Region.wanted, hgd])]
  have hz : (Tryz.prog.info? 38).map (·.size) = some 2 := by kernel_rfl
  have hg' : w.heap[g]? = some (.cells cur.toList.toArray 38 (0, 0)) := by rw [Array.toArray_toList]; exact hg
  have hl : k * 2 + (cO (i, j)).length ≤ cur.toList.length := by rw [show (cO (i, j)).length = 2 from rfl]; simpa using (show k * 2 + 2 ≤ cur.size by omega)
  have h1 : ∀ v ∈ cO (i, j), v.oneCell' = true := fun v hv => by simp [cO] at hv; rcases hv with rfl | rfl <;> rfl
  refine wp_store_mid 38 x y ho g (k * 2) #[.int .u16 i, .int .u16 j] hx hy (there_row hg' hl) (by rw [hz]; rfl) (all_oneCell_toArray (cs := cO (i, j)) h1) ?_
  have e := setCells_row hg' hl h1
  rw [show (#[Value.int .u16 i, Value.int .u16 j] : Array Value).toList = cO (i, j) from rfl, e]
  refine h _ (splice cur.toList (k * 2) (cO (i, j))).toArray (Wrote.setRow _ _ _) (setRow_heap _ _ _ _ _ _ hg) ?_ ?_
  · simp [splice, cO]; omega
  · rw [List.toList_toArray, splice_take (show k * 2 + 2 ≤ _ by omega) (by rw [Array.length_toList]; exact hs), hc, ownC, flat_set (f := cO) (s := 2) (fun x _ => cO_len x) k hk (i, j) (cO_len _)]
    rfl
section
variable {w : World} {M : Nat → Prop} {p : Value} {n : Int} {O : List (Int × Int)}
theorem RSp.below (h : RSp w M p n O) {w' : World} (hb : Below w.heap.size w w') : RSp w' M p n O := by
  obtain ⟨b, v, e, hr, ho, hM⟩ := h
  exact ⟨b, v, e, (hb.block b (Array.getElem?_eq_some_iff.1 hr).1).trans hr, ho.below hb, hM⟩
end
end Go.Proofs.YtekeoljfdnfbgaaGreat
namespace Go.Proofs.YtekeoljfdnfbgaaGreat
set_option maxRecDepth 100000
open Go.RowKit BM
section
variable {w : World} {P : Nat → Prop} {d p : Value} {X : XSt} {O D : List (Int × Int)} {k : Nat}
theorem spRead_row {g : Nat} (h : SInv w P d p X) (hH : Has X.cur O k) (hO : OOk O k) (hg : g < k) :
    Calls Tryz.prog 124 #[p, .int .i64 g] w fun e w' => ∃ b cap cur, e = .returned (.tuple #[.slice (some ⟨b, 0, none⟩) 64 cap, .int .i64 0]) ∧ w.heap.size ≤ b ∧ w'.heap[b]? = some (.cells cur 38 (0, 0)) ∧ cur.toList.take ((grO O g).length * 2) = ownC (grO O g) ∧ (grO O g).length * 2 ≤ cur.size ∧ 64 ≤ cap ∧ cap ≤ maxLen ∧ cur.size = cap * 2 ∧ Below w.heap.size w w' := by
  refine (spRead_at h hH hO hg).mono fun e w' ⟨b, cap, he, hb, hbl, hv, _, hbe⟩ => ?_
  have hl := grO_length hO.len hg
  rcases hv.2.2 with ⟨e0, _⟩ | ⟨g', cap', cur, ev, _, hh, hnc, hcm, hcs, ht⟩
  · cases e0
  · injection ev with e1 _ e3
    injection e1 with e1
    injection e1 with e1
    subst e1; subst e3
    exact ⟨b, cap, cur, he, hb, hh, ht, by omega, by omega, hcm, hcs, hbe⟩
theorem owSl_row {w : World} {b cap : Nat} {cur : Array Value} {D : List (Int × Int)} (hB : OwB D) (hD : D.length = 64) (hh : w.heap[b]? = some (.cells cur 38 (0, 0))) (ht : cur.toList.take (D.length * 2) = ownC D) (h64 : 64 ≤ cap) (hm : cap ≤ maxLen) (hs : cur.size = cap * 2) : OwSl w (.slice (some ⟨b, 0, none⟩) 64 cap) D := by
  have : OwR w 0 (.slice (some ⟨b, 0, none⟩) 64 cap) D := ⟨hB, by rw [ownC_length], .inr ⟨b, cap, cur, by rw [hD], Nat.zero_le _, hh, by omega, hm, hs, ht⟩⟩
  exact this.sl
theorem spSet_yes (h : SInv w P d p X) (hw : X.wi = true) (hp0 : X.put = []) (hH : Has X.call O k) (hO : OOk O k) {n : Nat} (hn : n < 64 * k) (hx : fixB (n : Int) = false) {i j : Int} (hi : 0 ≤ i ∧ i ≤ 65535) (hj : 0 ≤ j ∧ j ≤ 65535) (hf : frmO i j = true) (hne : i ≠ 65535) :
    Calls Tryz.prog 88 #[p, .int .i64 n, .agg #[.int .u16 i, .int .u16 j]] w fun e w' => e = .returned (.int .i64 0) ∧ ∃ P', SInv w' P' d p (putX X (n / 64) (grO (O.set n (i, j)) (n / 64))) ∧ Chg P P' w w' := by
  have h12 := hO.k12
  have hcur : X.cur = X.call := by unfold XSt.cur; rw [if_pos hw]
  have hH' : Has X.cur O k := by rw [hcur]; exact hH
  obtain ⟨g, hg⟩ : ∃ g, g = n / 64 := ⟨_, rfl⟩
  obtain ⟨t, ht⟩ : ∃ t, t = n % 64 := ⟨_, rfl⟩
  have hgk : g < k := by omega
  have ht64 : t < 64 := by omega
  have hO2 := hO.set hn hx hi hj hf hne
  have eD : grO (O.set n (i, j)) (n / 64) = (grO O g).set t (i, j) := by rw [hg, ht]; exact grO_set_self O n (i, j)
  obtain ⟨D, hD⟩ : ∃ D, D = (grO O g).set t (i, j) := ⟨_, rfl⟩
  rw [eD, ← hD, ← hg]
  obtain ⟨dB, dA, _⟩ := hO2.gr (g := n / 64) (by omega)
  rw [eD, ← hD] at dB dA
  have gL := grO_length hO.len hgk
  have dL : D.length = 64 := allO_len dA
  have hlen : X.is.length = 64 * k := by
    obtain ⟨_, _, _, _, _, _, _, _, _, _, _, _, _, hpl, _⟩ := h
    rw [← hpl.ok.curLen]; exact hH'.len
  have KO := Lib.hid (spOpen_is (n : Int) (by omega) true (by unfold openN; rw [decide_eq_true (by omega), hx]; rfl))
  have KF := Lib.hid (grForm_is i j hi hj true hf)
  have KG := Lib.hid (fun (W : World) => gGroup_any (n : Int) (by omega) W)
  have eg : grpI (n : Int) = g := by unfold grpI; rw [if_neg (by omega)]; omega
  rw [eg] at KG
  have hb1 := below_box w (.cells #[.int .u16 i, .int .u16 j] 38)
  have hr1 := heap_alloc_new w (.cells #[.int .u16 i, .int .u16 j] 38)
  obtain ⟨W1, hW1⟩ : ∃ W1, W1 = w.alloc (.cells #[.int .u16 i, .int .u16 j] 38) := ⟨_, rfl⟩
  rw [← hW1] at hb1 hr1
  have hz1 : w.heap.size < W1.heap.size := by rw [hW1]; simp
  have KR : Hid (∀ W, Below w.heap.size w W → Calls Tryz.prog 124 #[p, .int .i64 g] W _) := Lib.hid fun W hb => spRead_row (h.low hb) hH' hO hgk
  have hlt := h.lt
  have HFIN : Hid (∀ (W w' : World) (b cap : Nat) (cur cur' : Array Value), Below w.heap.size w W → w.heap.size ≤ b → Wrote W w' b → w'.heap[b]? = some (.cells cur' 38 (0, 0)) → cur'.size = cur.size → cur'.toList.take ((grO O g).length * 2) = ownC ((grO O g).set t (i, j)) → 64 ≤ cap → cap ≤ maxLen → cur.size = cap * 2 →
      Below w.heap.size w w' ∧ SInv w' P d p X ∧ OwSl w' (.slice (some ⟨b, 0, none⟩) 64 cap) D) := Lib.hid fun W w' b cap cur cur' hb hwb hwr hh hs ht' h64 hcm hcs => by
    have hbe := hb.trans (hwr.below hwb)
    exact ⟨hbe, h.low hbe, owSl_row dB dL hh (by rw [dL, hD, ← ht', gL]) h64 hcm (by omega)⟩
  have KW2 : Hid (∀ (W : World) (v : Value), SInv W P d p X → OwSl W v D → Calls Tryz.prog 125 #[p, .int .i64 g, v] W fun e w' => e = .returned (.int .i64 0) ∧ ∃ P', SInv w' P' d p (putX X g D) ∧ Chg P P' W w') := Lib.hid fun W v hi hs => spWrite_of hi hw hp0 hlen h12 hgk hs dA
  have H1 := Lib.hid hW1.symm
  have HR1 := Lib.hid hr1
  have HB1 := Lib.hid hb1
  have hrem : (n : Int).tmod 64 = t := by rw [Int.tmod_eq_emod_of_nonneg (by omega)]; omega
  have et : (t : Int) < 64 := by omega
  have HM : Hid (w.heap.size < W1.heap.size) := Lib.hid hz1
  have HTL : Hid (t < (grO O g).length) := Lib.hid (by omega)
  have hib : (i == 65535) = false := by simpa using hne
  have cells2 : Hid (∀ W, Below W1.heap.size W1 W → W.cell? ⟨w.heap.size, 0, none⟩ = some (.int .u16 i) ∧ W.cell? ⟨w.heap.size, 1, none⟩ = some (.int .u16 j)) := Lib.hid fun W hb => by
    have hr := below_hold hr1 hb
    exact ⟨cell_of_row _ _ _ _ _ _ hr, cell_of_row _ _ _ _ _ _ hr⟩
  clear h hw hp0 hH hO hn hx hi hj hf hne h12 hcur hH' hg ht hgk ht64 hO2 eD hD dB dA gL dL hlen eg hW1 hr1 hb1 hz1 hlt
  go_enter Tryz.func88, Tryz.ntmps88
  go_wp2_with (first
    | (go_at_call 99; refine (KO.out _).mono ?_; rintro e w' ⟨rfl, rfl⟩)
    | (go_at_call 84; rw [H1.out]; refine (KF.out _).mono ?_; rintro e w2 ⟨rfl, hb2⟩; obtain ⟨c20, c21⟩ := cells2.out _ hb2; have hb02 := HB1.out.trans (hb2.mono (Nat.le_of_lt HM.out)))
    | (go_at_call 123; refine (KG.out _).mono ?_; rintro e w' ⟨rfl, rfl⟩)
    | (go_at_call 124; refine (KR.out _ hb02).mono ?_; rintro e w3 ⟨b, cap, cur, rfl, hbb, hg3, ht3, hs3, h64, hcm, hcs, hb3⟩; have hb13 := hb2.trans (hb3.mono hb2.size); obtain ⟨c30, c31⟩ := cells2.out _ hb13; have hb03 := hb02.trans (hb3.mono hb02.size); have hwb := Nat.le_trans hb02.size hbb)
    | (with_reducible refine wpList_store_owp rfl (.tmp 38) (.tmp 37) rfl b t (grO O g) cur i j rfl rfl hg3 ht3 hs3 HTL.out ?_; intro w4 cur4 hw4 hg4 hs4 ht4
       obtain ⟨hb04, hi4, ho4⟩ := HFIN.out w3 w4 b cap cur cur4 hb03 hwb hw4 hg4 hs4 ht4 h64 hcm hcs
       clear hw4 hg4 hs4 ht4)
    | (go_at_call 125; refine (KW2.out _ _ hi4 ho4).mono ?_; rintro e w5 ⟨rfl, P5, hi5, hc5⟩))
  go_ret
  exact ⟨rfl, P5, hi5, (Chg.of_below hb04).trans hc5⟩
end
theorem cntU_mono (O : List (Int × Int)) {a b : Nat} (h : a ≤ b) : cntU O a ≤ cntU O b := by
  obtain ⟨c, rfl⟩ : ∃ c, b = a + c := ⟨b - a, by omega⟩
  clear h
  induction c with
  | zero => exact Nat.le_refl _
  | succ c ih =>
    have : cntU O (a + (c + 1)) = cntU O (a + c) + (if fixB ((a + c : Nat) : Int) = false ∧ freeJ O (a + c) = false then 1 else 0) := rfl
    omega
theorem cntU_all {O : List (Int × Int)} : ∀ L, (∀ j, j < L → freeJ O j = false) → cntU O L = cntO L
  | 0, _ => rfl
  | L + 1, h => by
    have ih := cntU_all L fun j hj => h j (by omega)
    have h1 := h L (by omega)
    unfold cntU cntO
    rw [ih, h1]
    cases fixB (L : Int) <;> simp
theorem findS_cases (O : List (Int × Int)) (L g : Nat) : (∃ k, k < L ∧ freeJ O ((g + k) % L) = true ∧ findS O L g = (((g + k) % L : Nat) : Int)) ∨ (∀ k, k < L → freeJ O ((g + k) % L) = false) := by
  unfold findS
  cases hf : (List.range L).find? (fun k => freeJ O ((g + k) % L)) with
  | some k => exact .inl ⟨k, List.mem_range.1 (List.mem_of_find?_eq_some hf), by simpa using List.find?_some hf, rfl⟩
  | none =>
    refine .inr fun k hk => ?_
    have := List.find?_eq_none.1 hf k (List.mem_range.2 hk)
    simpa using this
theorem find_free {O : List (Int × Int)} {k m g : Nat} (hO : OOk O k) (hm1 : 1 ≤ m) (hm : m ≤ k) (hg : g < 64 * m) (hc : (cntU O (64 * m) : Int) < 62 * (m : Int) - 42) : ∃ f : Nat, f < 64 * m ∧ findS O (64 * m) g = f ∧ freeJ O f = true ∧ fixB (f : Int) = false := by
  have h12 := hO.k12
  have fixed : ∀ f, f < 64 * k → freeJ O f = true → fixB (f : Int) = false := fun f hf hr => by
    have h1 := hO.fx f hf
    have h2 : (O.getD f (0, 0)).1 = 0 := of_decide_eq_true hr
    rw [h2] at h1
    exact h1.symm.trans (by decide)
  rcases findS_cases O (64 * m) g with ⟨i, hi, hr, e⟩ | hn
  · have hl : (g + i) % (64 * m) < 64 * m := Nat.mod_lt _ (by omega)
    exact ⟨_, hl, e, hr, fixed _ (by omega) hr⟩
  · have hall : ∀ j, j < 64 * m → freeJ O j = false := fun j hj => by
      by_cases hjg : g ≤ j
      · have := hn (j - g) (by omega)
        rwa [show g + (j - g) = j by omega, Nat.mod_eq_of_lt hj] at this
      · have := hn (64 * m - g + j) (by omega)
        rwa [show g + (64 * m - g + j) = j + 64 * m by omega, Nat.add_mod_right, Nat.mod_eq_of_lt hj] at this
    have := cntU_all _ hall
    have h2 := cntO_mul m hm1 (by omega)
    omega
section
variable {w : World} {P : Nat → Prop} {d p : Value} {X : XSt} {O D : List (Int × Int)} {k : Nat}
theorem spGive_far {n : Int} (hm : n ≤ 9223372036854775807) (ho : openN n = false) (p : Value) (w : World) : Calls Tryz.prog 50 #[p, .int .i64 n] w fun e w' => e = .returned (.int .i64 1) ∧ w = w' := by
  have KO := Lib.hid (spOpen_is n hm false ho)
  clear ho
  go_enter Tryz.func50, Tryz.ntmps50
  go_wp2_with (go_at_call 99; refine (KO.out _).mono ?_; rintro e w' ⟨rfl, rfl⟩)
  go_ret
  exact ⟨rfl, rfl⟩
theorem spGive_free (h : SInv w P d p X) (hH : Has X.cur O k) (hO : OOk O k) {n : Nat} (hn : n < 64 * k) (hf : freeJ O n = true) : Calls Tryz.prog 50 #[p, .int .i64 n] w fun e w' => e = .returned (.int .i64 1) ∧ Below w.heap.size w w' := by
  have h12 := hO.k12
  have h2 : (O.getD n (0, 0)).1 = 0 := of_decide_eq_true hf
  have hx : fixB (n : Int) = false := by
    have h1 := hO.fx n hn
    rw [h2] at h1
    exact h1.symm.trans (by decide)
  have h3 := hO.frm n hn
  unfold frmJ at h3
  rw [h2] at h3
  have KO := Lib.hid (spOpen_is (n : Int) (by omega) true (by unfold openN; rw [decide_eq_true (by omega), hx]; rfl))
  have KW := Lib.hid (spOwner_yes h hH hO hn)
  rw [h2, frm_zero h3] at KW
  have KF := Lib.hid (spFree_is 0 0 true rfl)
  clear h hH hO hn hf h2 hx h3 h12
  go_enter Tryz.func50, Tryz.ntmps50
  go_wp2_with (first
    | (go_at_call 99; refine (KO.out _).mono ?_; rintro e w' ⟨rfl, rfl⟩)
    | (go_at_call 100; refine KW.out.mono ?_; rintro e w1 ⟨rfl, hb1⟩; have hb2 := below_box w1 (.cells #[.int .u16 0, .int .u16 0] 38))
    | (go_at_call 83; refine (KF.out _).mono ?_; rintro e w3 ⟨rfl, hb3⟩))
  go_ret
  exact ⟨rfl, (hb1.trans (hb2.mono hb1.size)).trans (hb3.mono (Nat.le_trans hb1.size hb2.size))⟩
theorem spGive_yes (h : SInv w P d p X) (hw : X.wi = true) (hp0 : X.put = []) (hH : Has X.call O k) (hO : OOk O k) {n : Nat} (hn : n < 64 * k) (hx : fixB (n : Int) = false) (hf : freeJ O n = false) :
    Calls Tryz.prog 50 #[p, .int .i64 n] w fun e w' => e = .returned (.int .i64 0) ∧ ∃ P', SInv w' P' d p (putX X (n / 64) (grO (O.set n (0, 0)) (n / 64))) ∧ Chg P P' w w' := by
  have h12 := hO.k12
  have hcur : X.cur = X.call := by unfold XSt.cur; rw [if_pos hw]
  have hH' : Has X.cur O k := by rw [hcur]; exact hH
  have h2 : (O.getD n (0, 0)).1 ≠ 0 := of_decide_eq_false hf
  have KO := Lib.hid (spOpen_is (n : Int) (by omega) true (by unfold openN; rw [decide_eq_true (by omega), hx]; rfl))
  have KW := Lib.hid (spOwner_yes h hH' hO hn)
  obtain ⟨x, hxx⟩ : ∃ x, x = (O.getD n (0, 0)).1 := ⟨_, rfl⟩
  obtain ⟨y, hyy⟩ : ∃ y, y = (O.getD n (0, 0)).2 := ⟨_, rfl⟩
  rw [← hxx, ← hyy] at KW
  rw [← hxx] at h2
  have KF := Lib.hid (spFree_is x y false (by rw [freeP, show (x == 0) = false by simpa using h2]; rfl))
  have KS : Hid (∀ W, Below w.heap.size w W → Calls Tryz.prog 88 #[p, .int .i64 n, .agg #[.int .u16 0, .int .u16 0]] W fun e w' => e = .returned (.int .i64 0) ∧ ∃ P', SInv w' P' d p (putX X (n / 64) (grO (O.set n (0, 0)) (n / 64))) ∧ Chg P P' W w') := Lib.hid fun W hb => spSet_yes (h.low hb) hw hp0 hH hO hn hx (by decide) (by decide) (by decide) (by decide)
  clear h hw hp0 hH hO hn hx hf h12 hcur hH' h2 hxx hyy
  go_enter Tryz.func50, Tryz.ntmps50
  go_wp2_with (first
    | (go_at_call 99; refine (KO.out _).mono ?_; rintro e w' ⟨rfl, rfl⟩)
    | (go_at_call 100; refine KW.out.mono ?_; rintro e w1 ⟨rfl, hb1⟩; have hb2 := below_box w1 (.cells #[.int .u16 x, .int .u16 y] 38))
    | (go_at_call 83; refine (KF.out _).mono ?_; rintro e w3 ⟨rfl, hb3⟩; have hb03 := (hb1.trans (hb2.mono hb1.size)).trans (hb3.mono (Nat.le_trans hb1.size hb2.size)))
    | (go_at_call 88; refine (KS.out _ hb03).mono ?_; rintro e w4 ⟨rfl, P4, hi4, hc4⟩))
  go_ret
  exact ⟨rfl, P4, hi4, (Chg.of_below hb03).trans hc4⟩
end
end Go.Proofs.YtekeoljfdnfbgaaGreat
namespace Go.Proofs.YtekeoljfdnfbgaaGreat
set_option maxRecDepth 100000
open Go.RowKit
section
variable {w : World} {M : Nat → Prop} {p : Value} {n : Int} {O : List (Int × Int)}
def takeNoR (b l i j : Int) : Prop := frmB b = false ∨ frmB l = false ∨ b < l ∨ frmO i j = false ∨ i = 0 ∨ i = 65535
theorem rSpTake_no {b l g i j : Int} (hb : b ≤ 9223372036854775807) (hl : l ≤ 9223372036854775807) (hi : 0 ≤ i ∧ i ≤ 65535) (hj : 0 ≤ j ∧ j ≤ 65535) (hno : takeNoR b l i j) (p : Value) (w : World) :
    Calls Tryz.prog 30 #[p, .int .i64 b, .int .i64 l, .int .i64 g, .agg #[.int .u16 i, .int .u16 j]] w fun e w' => e = .returned (.tuple #[.int .i64 0, .int .i64 1]) ∧ Below w.heap.size w w' := by
  have hb1 := below_box w (.cells #[.int .u16 i, .int .u16 j] 38)
  cases h1 : frmB b
  · have K1 := Lib.hid (fun W : World => rFormed_no b hb h1 W)
    clear hno h1
    go_enter Tryz.func30, Tryz.ntmps30
    go_wp2_with (go_at_call 69; refine (K1.out _).mono ?_; rintro e w' ⟨rfl, rfl⟩)
    go_ret2
    exact ⟨rfl, hb1⟩
  · have K1 : Hid (∀ W : World, Calls Tryz.prog 69 #[.int .i64 b] W fun e w' => e = .returned (.bool true) ∧ W = w') := Lib.hid fun W => by rw [← h1]; exact rFormed_any b hb W
    cases h2 : frmB l
    · have K2 := Lib.hid (fun W : World => rFormed_no l hl h2 W)
      clear hno h1 h2
      go_enter Tryz.func30, Tryz.ntmps30
      go_wp2_with (first
        | (go_at_call 69; (with_reducible refine (K1.out _).mono ?_); rintro e w' ⟨rfl, rfl⟩)
        | (go_at_call 69; (with_reducible refine (K2.out _).mono ?_); rintro e w' ⟨rfl, rfl⟩))
      go_ret2
      exact ⟨rfl, hb1⟩
    · have K2 : Hid (∀ W : World, Calls Tryz.prog 69 #[.int .i64 l] W fun e w' => e = .returned (.bool true) ∧ W = w') := Lib.hid fun W => by rw [← h2]; exact rFormed_any l hl W
      by_cases h3 : b < l
      · clear hno h1 h2
        go_enter Tryz.func30, Tryz.ntmps30
        go_wp2_with (first
          | (go_at_call 69; (with_reducible refine (K1.out _).mono ?_); rintro e w' ⟨rfl, rfl⟩)
          | (go_at_call 69; (with_reducible refine (K2.out _).mono ?_); rintro e w' ⟨rfl, rfl⟩))
        go_ret2
        exact ⟨rfl, hb1⟩
      · cases h5 : frmO i j
        · have K4 := Lib.hid (rrForm_is i j hi hj false h5)
          have HB1 := Lib.hid hb1
          clear hno h1 h2 h5 hb1
          go_enter Tryz.func30, Tryz.ntmps30
          go_wp2_with (first
            | (go_at_call 69; (with_reducible refine (K1.out _).mono ?_); rintro e w' ⟨rfl, rfl⟩)
            | (go_at_call 69; (with_reducible refine (K2.out _).mono ?_); rintro e w' ⟨rfl, rfl⟩)
            | (go_at_call 70; refine (K4.out _).mono ?_; rintro e w3 ⟨rfl, hb3⟩))
          go_ret2
          exact ⟨rfl, HB1.out.trans (hb3.mono HB1.out.size)⟩
        · have K4 := Lib.hid (rrForm_is i j hi hj true h5)
          have hor : i = 0 ∨ i = 65535 := by
            rcases hno with h | h | h | h | h | h
            · rw [h1] at h; cases h
            · rw [h2] at h; cases h
            · exact absurd h h3
            · rw [h5] at h; cases h
            · exact .inl h
            · exact .inr h
          have HR := Lib.hid (fun (W : World) (hb : Below (w.alloc (.cells #[.int .u16 i, .int .u16 j] 38)).heap.size (w.alloc (.cells #[.int .u16 i, .int .u16 j] 38)) W) => show W.cell? ⟨w.heap.size, 0, none⟩ = some (.int .u16 i) ∧ W.cell? ⟨w.heap.size, 1, none⟩ = some (.int .u16 j) from ⟨cell_of_row _ _ _ _ _ _ (below_hold (heap_alloc_new w _) hb), cell_of_row _ _ _ _ _ _ (below_hold (heap_alloc_new w _) hb)⟩)
          have HB1 := Lib.hid hb1
          clear hno h1 h2 h5 hb1
          rcases hor with rfl | rfl
          all_goals
            go_enter Tryz.func30, Tryz.ntmps30
            go_wp2_with (first
              | (go_at_call 69; (with_reducible refine (K1.out _).mono ?_); rintro e w' ⟨rfl, rfl⟩)
              | (go_at_call 69; (with_reducible refine (K2.out _).mono ?_); rintro e w' ⟨rfl, rfl⟩)
              | (go_at_call 70; refine (K4.out _).mono ?_; rintro e w3 ⟨rfl, hb3⟩; obtain ⟨c30, c31⟩ := HR.out _ hb3))
            go_ret2
            exact ⟨rfl, HB1.out.trans (hb3.mono HB1.out.size)⟩
structure RTakeK (w : World) (p : Value) (O : List (Int × Int)) (a m : Nat) (g i j : Int) : Prop where
  f1 : ∀ W : World, Calls Tryz.prog 69 #[.int .i64 (64 * (a : Int))] W fun e w' => e = .returned (.bool true) ∧ W = w'
  f2 : ∀ W : World, Calls Tryz.prog 69 #[.int .i64 (64 * (m : Int))] W fun e w' => e = .returned (.bool true) ∧ W = w'
  fo : ∀ W : World, Calls Tryz.prog 70 #[.agg #[.int .u16 i, .int .u16 j]] W fun e w' => e = .returned (.bool true) ∧ Below W.heap.size W w'
  us : ∀ W : World, Below w.heap.size w W → Calls Tryz.prog 71 #[p, .int .i64 (64 * (a : Int))] W fun e w' => e = .returned (.tuple #[.int .i64 (cntU O (64 * a)), .int .i64 0]) ∧ W = w'
  op : ∀ W : World, Calls Tryz.prog 72 #[.int .i64 (64 * (m : Int))] W fun e w' => e = .returned (.int .i64 (62 * (m : Int) - 42)) ∧ W = w'
  fi : ∀ W : World, Below w.heap.size w W → Calls Tryz.prog 73 #[p, .int .i64 (64 * (m : Int)), .int .i64 g] W fun e w' => e = .returned (.int .i64 (findS O (64 * m) (goalS (64 * m) g))) ∧ W = w'
theorem rTakeK (h : RSp w M p n O) {k : Nat} (hO : OOk O k) {a m : Nat} (hm1 : 1 ≤ m) (hma : m ≤ a) (hak : a ≤ k) (g : Int) {i j : Int} (hi : 0 ≤ i ∧ i ≤ 65535) (hj : 0 ≤ j ∧ j ≤ 65535) (hf : frmO i j = true) : RTakeK w p O a m g i j := by
  have h12 := hO.k12
  have hl := hO.len
  have e : ∀ x : Nat, ((64 * x : Nat) : Int) = 64 * (x : Int) := fun x => by omega
  refine ⟨fun W => rFormed_yes a (by omega) (by omega) W, fun W => rFormed_yes m hm1 (by omega) W, rrForm_is i j hi hj true hf, fun W hb => ?_, fun W => rOpnB_yes m hm1 (by omega) W, fun W hb => ?_⟩
  · have := rSpUsed_yes (h.below hb) (L := 64 * a) (by rw [e]; exact frm_mk a (by omega) (by omega)) (by omega) (by omega) (by omega)
    rw [e] at this; exact this
  · have := rSpFind_any (h.below hb) (L := 64 * m) (by omega) (by omega) (by omega) g
    rw [e] at this; exact this
theorem rSpTake_full (h : RSp w M p n O) {k : Nat} (hO : OOk O k) {a m : Nat} (hm1 : 1 ≤ m) (hma : m ≤ a) (hak : a ≤ k) (g : Int) {i j : Int} (hi : 0 ≤ i ∧ i ≤ 65535) (hj : 0 ≤ j ∧ j ≤ 65535) (hf : frmO i j = true) (h0 : i ≠ 0) (h6 : i ≠ 65535) (hc : 62 * (m : Int) - 42 ≤ cntU O (64 * a)) :
    Calls Tryz.prog 30 #[p, .int .i64 (64 * (a : Int)), .int .i64 (64 * (m : Int)), .int .i64 g, .agg #[.int .u16 i, .int .u16 j]] w fun e w' => e = .returned (.tuple #[.int .i64 0, .int .i64 13]) ∧ Below w.heap.size w w' := by
  have h12 := hO.k12
  have K := Lib.hid (rTakeK h hO hm1 hma hak g hi hj hf)
  have HR := Lib.hid (fun (W : World) (hb : Below (w.alloc (.cells #[.int .u16 i, .int .u16 j] 38)).heap.size (w.alloc (.cells #[.int .u16 i, .int .u16 j] 38)) W) => show W.cell? ⟨w.heap.size, 0, none⟩ = some (.int .u16 i) ∧ W.cell? ⟨w.heap.size, 1, none⟩ = some (.int .u16 j) from ⟨cell_of_row _ _ _ _ _ _ (below_hold (heap_alloc_new w _) hb), cell_of_row _ _ _ _ _ _ (below_hold (heap_alloc_new w _) hb)⟩)
  have HB1 := Lib.hid (below_box w (.cells #[.int .u16 i, .int .u16 j] 38))
  have hib : (i == 65535) = false := by simpa using h6
  have hi0 : (i == 0) = false := by simpa using h0
  have hma' : ¬ (64 * (a : Int) < 64 * (m : Int)) := by omega
  obtain ⟨U, hU⟩ : ∃ U, U = cntU O (64 * a) := ⟨_, rfl⟩
  have KU : Hid (∀ W : World, Below w.heap.size w W → Calls Tryz.prog 71 #[p, .int .i64 (64 * (a : Int))] W fun e w' => e = .returned (.tuple #[.int .i64 U, .int .i64 0]) ∧ W = w') := Lib.hid (by rw [hU]; exact K.out.us)
  rw [← hU] at hc
  clear h hO hi hj hf h0 h6 hU hm1 hak h12
  go_enter Tryz.func30, Tryz.ntmps30
  go_wp2_with (first
    | (go_at_call 69; (with_reducible refine (K.out.f1 _).mono ?_); rintro e w' ⟨rfl, rfl⟩)
    | (go_at_call 69; (with_reducible refine (K.out.f2 _).mono ?_); rintro e w' ⟨rfl, rfl⟩)
    | (go_at_call 70; refine (K.out.fo _).mono ?_; rintro e w3 ⟨rfl, hb3⟩; obtain ⟨c30, c31⟩ := HR.out _ hb3; have hb03 := HB1.out.trans (hb3.mono HB1.out.size))
    | (go_at_call 71; refine (KU.out _ hb03).mono ?_; rintro e w4 ⟨rfl, rfl⟩)
    | (go_at_call 72; refine (K.out.op _).mono ?_; rintro e w' ⟨rfl, rfl⟩))
  go_ret2
  exact ⟨rfl, hb03⟩
theorem rSpTake_yes (h : RSp w M p n O) {k : Nat} (hO : OOk O k) {a m : Nat} (hm1 : 1 ≤ m) (hma : m ≤ a) (hak : a ≤ k) (g : Int) {i j : Int} (hi : 0 ≤ i ∧ i ≤ 65535) (hj : 0 ≤ j ∧ j ≤ 65535) (hf : frmO i j = true) (h0 : i ≠ 0) (h6 : i ≠ 65535) {f : Nat}
    (hc : (cntU O (64 * a) : Int) < 62 * (m : Int) - 42) (hfm : f < 64 * m) (hfs : findS O (64 * m) (goalS (64 * m) g) = f) :
    Calls Tryz.prog 30 #[p, .int .i64 (64 * (a : Int)), .int .i64 (64 * (m : Int)), .int .i64 g, .agg #[.int .u16 i, .int .u16 j]] w fun e w' => e = .returned (.tuple #[.int .i64 f, .int .i64 0]) ∧ RSp w' M p n (O.set f (i, j)) ∧ Chg M M w w' := by
  have h12 := hO.k12
  have hlen := hO.len
  have hfO : f < O.length := by omega
  have K := Lib.hid (rTakeK h hO hm1 hma hak g hi hj hf)
  have HR := Lib.hid (fun (W : World) (hb : Below (w.alloc (.cells #[.int .u16 i, .int .u16 j] 38)).heap.size (w.alloc (.cells #[.int .u16 i, .int .u16 j] 38)) W) => show W.cell? ⟨w.heap.size, 0, none⟩ = some (.int .u16 i) ∧ W.cell? ⟨w.heap.size, 1, none⟩ = some (.int .u16 j) from ⟨cell_of_row _ _ _ _ _ _ (below_hold (heap_alloc_new w _) hb), cell_of_row _ _ _ _ _ _ (below_hold (heap_alloc_new w _) hb)⟩)
  have HB1 := Lib.hid (below_box w (.cells #[.int .u16 i, .int .u16 j] 38))
  have hib : (i == 65535) = false := by simpa using h6
  have hi0 : (i == 0) = false := by simpa using h0
  have hma' : ¬ (64 * (a : Int) < 64 * (m : Int)) := by omega
  obtain ⟨U, hU⟩ : ∃ U, U = cntU O (64 * a) := ⟨_, rfl⟩
  have KU : Hid (∀ W : World, Below w.heap.size w W → Calls Tryz.prog 71 #[p, .int .i64 (64 * (a : Int))] W fun e w' => e = .returned (.tuple #[.int .i64 U, .int .i64 0]) ∧ W = w') := Lib.hid (by rw [hU]; exact K.out.us)
  have KFi : Hid (∀ W : World, Below w.heap.size w W → Calls Tryz.prog 73 #[p, .int .i64 (64 * (m : Int)), .int .i64 g] W fun e w' => e = .returned (.int .i64 f) ∧ W = w') := Lib.hid (by rw [← hfs]; exact K.out.fi)
  rw [← hU] at hc
  have hc' : ¬ (62 * (m : Int) - 42 ≤ (U : Int)) := by omega
  have HH := Lib.hid h
  have HLT : Hid (∀ k, M k → k < w.heap.size) := Lib.hid (fun k hk => h.lt hk)
  have HK := Lib.hid hfO
  have HIJ := Lib.hid (And.intro hi hj)
  obtain ⟨bp, g0, off0, cap0, rfl, _, _, _⟩ := h.cells (by omega)
  obtain ⟨m', hm'⟩ : ∃ m', m' = O.length := ⟨_, rfl⟩
  have hkm : f < m' := by omega
  have hfmI : (f : Int) < (m' : Int) := by omega
  have HM := Lib.hid hm'
  have hm1' : m' ≤ 100000 := by omega
  clear h hO hi hj hf h0 h6 hU hm1 hak h12 hfs hlen hfO hm' hfm
  go_enter Tryz.func30, Tryz.ntmps30
  go_upto_region 7 with (first
    | (go_at_call 69; (with_reducible refine (K.out.f1 _).mono ?_); rintro e w' ⟨rfl, rfl⟩)
    | (go_at_call 69; (with_reducible refine (K.out.f2 _).mono ?_); rintro e w' ⟨rfl, rfl⟩)
    | (go_at_call 70; refine (K.out.fo _).mono ?_; rintro e w3 ⟨rfl, hb3⟩; obtain ⟨d0, d1⟩ := HR.out _ hb3; have HB3 := Lib.hid (HB1.out.trans (hb3.mono HB1.out.size)); clear hb3)
    | (go_at_call 71; refine (KU.out _ HB3.out).mono ?_; rintro e w4 ⟨rfl, rfl⟩)
    | (go_at_call 72; refine (K.out.op _).mono ?_; rintro e w' ⟨rfl, rfl⟩)
    | (go_at_call 73; refine (KFi.out _ HB3.out).mono ?_; rintro e w5 ⟨rfl, rfl⟩))
  have hbd : Below w.heap.size w w3.drew := HB3.out.drew
  have h3 := HH.out.below hbd
  obtain ⟨b, g', cap', cur, he, hb, hg, ht, hnc, hcm, hcs, hB, hMM⟩ := h3.row (by have := HK.out; omega)
  obtain rfl : bp = b := by injection he with e; injection e with e; injection e with e
  have c1' : w3.drew.cell? ⟨bp, 1, none⟩ = some (.slice (some ⟨g', 0, none⟩) m' cap') := by rw [cell_of_row _ _ _ _ _ _ hb, HM.out]; rfl
  have hS : w3.drew.cell? ⟨bp, 1, none⟩ = some (.slice (some ⟨g', 0, none⟩) m' cap') ∧ w3.drew.cell? ⟨w.heap.size, 0, none⟩ = some (.int .u16 i) ∧ w3.drew.cell? ⟨w.heap.size, 1, none⟩ = some (.int .u16 j) := ⟨c1', d0, d1⟩
  have HFIN := Lib.hid (fun (w' : World) (cur' : Array Value) (hw : Wrote w3.drew w' g') (hg' : w'.heap[g']? = some (.cells cur' 38 (0, 0))) (hs : cur'.size = cur.size) (ht' : cur'.toList.take (O.length * 2) = ownC (O.set f (i, j))) => RSp.stored hb hg hnc hcm hB hMM hw hg' (hs.trans hcs) ht' HIJ.out)
  have HCH : Hid (Chg M M w w3.drew) := Lib.hid (Chg.of_below hbd)
  have HNG : Hid (w.heap.size ≠ g') := Lib.hid (fun e => by have := HLT.out g' ((hMM g').2 (.inr rfl)); omega)
  have HG := Lib.hid hg
  have HT := Lib.hid ht
  have HS : Hid (O.length * 2 ≤ cur.size) := Lib.hid (by omega)
  clear he hb hg ht hnc hcm hcs hB hMM h3 hbd c1' d0 d1
  refine wp_region_held_drew (S := fun W => W.cell? ⟨bp, 1, none⟩ = some (.slice (some ⟨g', 0, none⟩) m' cap') ∧ W.cell? ⟨w.heap.size, 0, none⟩ = some (.int .u16 i) ∧ W.cell? ⟨w.heap.size, 1, none⟩ = some (.int .u16 j)) (by kernel_rfl) hS (fun hHeld => ?_)
  clear hHeld
  refine wpAnyH_take (i := 0) (v := .pointer (some ⟨bp, 0, none⟩)) rfl (by kernel_rfl) (by kernel_rfl) (by kernel_rfl) (fun _ _ _ h => h) (Or.inl ⟨by rfl, ?_⟩) (by assumption) ?_
  · intro W hSw
    obtain ⟨s0, s1, s2⟩ := hSw
    go_simp
  (try simp only [Act.put, List.setIfInBounds_toArray, List.set_cons_zero, List.set_cons_succ, List.getElem_toArray, List.getElem_cons_zero])
  refine wpAnyH_take (i := 1) (v := .pointer (some ⟨bp, 0, none⟩)) rfl (by kernel_rfl) (by kernel_rfl) (by kernel_rfl) (fun _ _ _ h => h) (Or.inl ⟨by rfl, ?_⟩) (by assumption) ?_
  · intro W hSw
    obtain ⟨s0, s1, s2⟩ := hSw
    go_simp
  (try simp only [Act.put, List.setIfInBounds_toArray, List.set_cons_zero, List.set_cons_succ, List.getElem_toArray, List.getElem_cons_zero, List.getElem_cons_succ])
  refine wpAnyH_take (i := 2) (v := .pointer (some ⟨bp, 1, none⟩)) rfl (by kernel_rfl) (by kernel_rfl) (by kernel_rfl) (fun _ _ _ h => h) (Or.inl ⟨by rfl, ?_⟩) (by assumption) ?_
  · intro W hSw
    obtain ⟨s0, s1, s2⟩ := hSw
    go_simp
  (try simp only [Act.put, List.setIfInBounds_toArray, List.set_cons_zero, List.set_cons_succ, List.getElem_toArray, List.getElem_cons_zero, List.getElem_cons_succ])
  refine wpAnyH_take (i := 3) (v := .slice (some ⟨g', 0, none⟩) m' cap') rfl (by kernel_rfl) (by kernel_rfl) (by kernel_rfl) (fun _ _ _ h => h) (Or.inl ⟨by rfl, ?_⟩) (by assumption) ?_
  · intro W hSw
    obtain ⟨s0, s1, s2⟩ := hSw
    go_simp
  (try simp only [Act.put, List.setIfInBounds_toArray, List.set_cons_zero, List.set_cons_succ, List.getElem_toArray, List.getElem_cons_zero, List.getElem_cons_succ])
  refine wpAnyH_take (i := 4) (v := .int .i64 f) rfl (by kernel_rfl) (by kernel_rfl) (by kernel_rfl) (fun _ _ _ h => h) (Or.inl ⟨by rfl, ?_⟩) (by assumption) ?_
  · intro W hSw
    obtain ⟨s0, s1, s2⟩ := hSw
    go_simp
  (try simp only [Act.put, List.setIfInBounds_toArray, List.set_cons_zero, List.set_cons_succ, List.getElem_toArray, List.getElem_cons_zero, List.getElem_cons_succ])
  refine wpAnyH_take (i := 5) (v := .agg #[.int .u16 i, .int .u16 j]) rfl (by kernel_rfl) (by kernel_rfl) (by kernel_rfl) (fun _ _ _ h => h) (Or.inl ⟨by rfl, ?_⟩) (by assumption) ?_
  · intro W hSw
    obtain ⟨s0, s1, s2⟩ := hSw
    go_simp
  (try simp only [Act.put, List.setIfInBounds_toArray, List.set_cons_zero, List.set_cons_succ, List.getElem_toArray, List.getElem_cons_zero, List.getElem_cons_succ])
  refine wpAnyH_take (i := 6) (v := .pointer (some ⟨g', f * 2, none⟩)) rfl (by kernel_rfl) (by kernel_rfl) (by kernel_rfl) (fun _ _ _ h => h) (Or.inl ⟨by rfl, ?_⟩) (by assumption) ?_
  · intro W hSw
    obtain ⟨s0, s1, s2⟩ := hSw
    go_simp
  (try simp only [Act.put, List.setIfInBounds_toArray, List.set_cons_zero, List.set_cons_succ, List.getElem_toArray, List.getElem_cons_zero, List.getElem_cons_succ])
  refine wpAnyH_ready (rs := [7]) (by kernel_rfl) (by simp) (AllReadyH.cons rfl (fun K hK => ?_) AllReadyH.nil)
  refine step_store_owp (by rfl) (.tmp 63) (.tmp 62) (by rfl) g' f O cur i j (by rfl) (by rfl) HG.out HT.out HS.out HK.out ?_
  intro w5 cur5 hw5 hg5 hs5 ht5
  have HE := Lib.hid (HFIN.out w5 cur5 hw5 hg5 hs5 ht5)
  have hg0 : bp ≠ g' := fun e => by
    obtain ⟨b9, v9, e9, hr9, _⟩ := HE.out.1
    obtain rfl : bp = b9 := by injection e9 with e; injection e with e; injection e with e
    rw [e, hg5] at hr9
    injection hr9 with hr9
    injection hr9 with _ hr9 _
    exact absurd hr9 (by decide)
  have hS5 : w5.cell? ⟨bp, 1, none⟩ = some (.slice (some ⟨g', 0, none⟩) m' cap') ∧ w5.cell? ⟨w.heap.size, 0, none⟩ = some (.int .u16 i) ∧ w5.cell? ⟨w.heap.size, 1, none⟩ = some (.int .u16 j) :=
    ⟨(World.cell?_of_block (a := ⟨bp, 1, none⟩) (hw5.2.2.2.2 bp hg0)).trans hS.1, (World.cell?_of_block (a := ⟨w.heap.size, 0, none⟩) (hw5.2.2.2.2 _ HNG.out)).trans hS.2.1, (World.cell?_of_block (a := ⟨w.heap.size, 1, none⟩) (hw5.2.2.2.2 _ HNG.out)).trans hS.2.2⟩
  refine hK.out _ _ hS5 (fun hHeld => ?_)
  clear hK hHeld hS hS5 hw5 hg5 hs5 ht5 hg0
  (try simp only [Act.put, List.getElem_toArray, List.getElem_cons_zero, List.getElem_cons_succ])
  refine wpAnyH_done (by kernel_rfl) ?_ _
  go_wp2
  go_ret2
  exact ⟨rfl, HE.out.1, HCH.out.trans HE.out.2⟩
end
end Go.Proofs.YtekeoljfdnfbgaaGreat
