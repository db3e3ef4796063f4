/- Contracts of package txn: Unpack, of blocks that begin with a head and end with its end. -/
import Derived.Test.YtmjndpmpeidhaaaTxnG
import Derived.Laws.ResultCell
namespace Go.Proofs.Ytmjndpmpeidhaaa
open Go.RowKit
set_option linter.unusedVariables false

/-- s[lo:hi] of a [][]byte. -/
theorem run_slice_bb (w : World) (b off n cap l h : Nat) (h1 : l ≤ h) (h2 : h ≤ cap) (h3 : l < cap) :
    (Instr.sliceAt 24 (.slice (some ⟨b, off, none⟩) n cap) (some (.int .i64 (l : Int))) (some (.int .i64 (h : Int))) none).run Try.prog w = .ok (.slice (some ⟨b, off + l, none⟩) (h - l) (cap - l)) w := by
  obtain ⟨i, g2, g3, g4, g5⟩ := info_parts infoBy
  have hne : cap ≠ l := by omega
  have ee : Try.prog.elem 24 = 40 := by kernel_rfl
  have hs : (sizeOf 40).run Try.prog w = .ok 1 w := by simp [sizeOf, typeInfo, g2, g4]
  rw [run_sliceAt_slice w 24 _ _ _ _ (by rw [ee]; exact Try.underlying24), run_slice_lh w 24 _ n cap (by rw [ee]; exact Try.underlying24) .i64 .i64 (l : Int) (h : Int) (by omega) (by omega) (by omega), ee, hs]
  simp [sliced, hne, Addr.add_lit]
theorem wpList_slice_bb {w : World} {ops : Array Oper} {rest : List Oper} {o : Oper} {a : Act} {Q : Exit → Act → World → Prop} (hgd : o.guard = none) (x lo hi : Operand) (ho : o.op = .slice 24 x (some lo) (some hi) none)
    (b off n cap : Nat) (hx : a.eval x = .slice (some ⟨b, off, none⟩) n cap) (L H : Int) (hl : a.eval lo = .int .i64 L) (hh : a.eval hi = .int .i64 H) (l h m : Nat) (hm : h - l = m) (hL : L = l) (hH : H = h) (h1 : l ≤ h) (h2 : h ≤ cap) (h3 : l < cap)
    (hK : wpList Try.prog ops Q rest (a.put o.dst (.slice (some ⟨b, off + l, none⟩) m (cap - l))) w) : wpList Try.prog ops Q (o :: rest) a w := by
  subst hL hH hm
  refine wpList_plain hgd fun K hK' => ?_
  unfold Oper.wp execOp
  simp only [ho, hx, hl, hh, Option.map_some, Option.map_none, run_slice_bb w b off n cap l h h1 h2 h3, Sem.run_bind, Sem.run_pure, Result.andThen_ok]
  exact hK' _ _ hK
theorem BBSl.mid {w : World} {b off cap : Nat} {L : List (List Int)} (h : BBSl w (.slice (some ⟨b, off, none⟩) L.length cap) L) (lo m : Nat) (hm : lo + m ≤ L.length) (M : List (List Int)) (hM : (L.drop lo).take m = M) : BBSl w (.slice (some ⟨b, off + lo, none⟩) m (cap - lo)) M := by
  have hlen : ((L.drop lo).take m).length = m := by simp; omega
  rw [hM] at hlen
  rcases h with ⟨hv, _⟩ | ⟨a', c', hv, hcap, hc⟩
  · simp at hv
  · obtain ⟨rfl, rfl⟩ : (⟨b, off, none⟩ : Addr) = a' ∧ cap = c' := ⟨Option.some.inj (Value.slice.inj hv).1, (Value.slice.inj hv).2.2⟩
    refine .inr ⟨⟨b, off + lo, none⟩, cap - lo, by rw [hlen], by omega, fun j hj => ?_⟩
    rw [hlen] at hj
    obtain ⟨h1, h2, u, h3, h4⟩ := hc (lo + j) (by omega)
    refine ⟨h1, rfl, u, ?_, ?_⟩
    · show w.cell? ⟨b, off + lo + j, none⟩ = _
      rw [Nat.add_assoc]; exact h3
    · have e : M.getD j [] = L.getD (lo + j) [] := by
        rw [← hM]
        simp [List.getD_eq_getElem?_getD, hj]
      rw [e]; exact h4
theorem sizeT : (Try.prog.info? 33).map (·.size) = some 3 := by kernel_rfl
/-- A transaction into a variable; as a result. -/
theorem wpList_store_t3 {ops : Array Oper} {rest : List Oper} {o : Oper} {a : Act} {w : World} {Q : Exit → Act → World → Prop} (hgd : o.guard = none) (ty : TypeId) (hi : (Try.prog.info? ty).map (·.size) = some 3) (x y : Operand) (ho : o.op = .store ty x y)
    (g : Nat) (hx : a.eval x = .pointer (some ⟨g, 0, none⟩)) (p q r p' q' r' : Value) (hy : a.eval y = .agg #[p, q, r]) (hp : p.oneCell' = true) (hq : q.oneCell' = true) (hr : r.oneCell' = true) (T : TypeId) (hg : w.heap[g]? = some (.cells #[p', q', r'] T (0, 0)))
    (h : ∀ w', Wrote w w' g → w'.heap[g]? = some (.cells #[p, q, r] T (0, 0)) → wpList Try.prog ops Q rest (a.put o.dst undef) w') : wpList Try.prog ops Q (o :: rest) a w :=
  wpList_store_row hgd ty x y ho g #[p, q, r] hx hy T _ hg hi rfl (by simp [hp, hq, hr]) (h _ (Wrote.setRow _ _ _) (setRow_heap _ _ _ _ _ _ hg))
theorem ret_cell_t3 {fn : Func} {p u : Tmp} {ty : TypeId} {fs} (h : fn.results = #[.cell p ty, .tmp u]) (hu : Try.prog.underlying ty = some (.struct fs)) (hi : (Try.prog.info? ty).map (·.size) = some 3)
    (tmps : Array Value) (w : World) (g : Nat) (T : TypeId) (a b c x : Value) (hp : tmps.getD p undef = .pointer (some ⟨g, 0, none⟩)) (hg : w.heap[g]? = some (.cells #[a, b, c] T (0, 0))) (hx : tmps.getD u undef = x) :
    (results fn tmps).run Try.prog w = .ok (.tuple #[.agg #[a, b, c], x]) w := by
  rw [results_cell_tmp h, hp, hx]
  simp only [asAddr, Sem.run_pure, Result.andThen_ok]
  rw [run_loadVar_row w g T ty _ (0, 0) _ hg hu rfl (by rw [hi]; rfl)]
  rfl
theorem hold9 {w w1 : World} {g : Nat} {o : Obj} (h : w.heap[g]? = some o) (hb : Below w.heap.size w w1) : w1.heap[g]? = some o := (hb.block _ (Array.getElem?_eq_some_iff.1 h).1).trans h

theorem IR.wrote {w w' : World} {B g : Nat} {v : Value} {l : List Int} (h : IR w B v l) (hw : Wrote w w' g) {cur : Array Value} {T : TypeId} (hg : w.heap[g]? = some (.cells cur T (0, 0))) (hT : T ≠ 3) : IR w' B v l := by
  refine ⟨h.1, ?_⟩
  rcases h.2 with h | ⟨g', cap, cur', hv, hB, hh, r⟩
  · exact .inl h
  · refine .inr ⟨g', cap, cur', hv, hB, ?_, r⟩
    rw [hw.2.2.2.2 g' (fun e => by
      subst e
      rw [hg] at hh
      injection hh with hh
      injection hh with _ h4
      exact hT h4)]
    exact hh
theorem BElt.wrote {w w' : World} {B g : Nat} {x : Value} {l : List Int} (h : BElt w B x l) (hw : Wrote w w' g) (hB : B ≤ g) {cur : Array Value} {T : TypeId} (hg : w.heap[g]? = some (.cells cur T (0, 0))) (hT : T ≠ 5) : BElt w' B x l := by
  by_cases h0 : 0 < l.length
  · obtain ⟨b, off, cap, rfl, hb, hor⟩ := h.2 h0
    have hne : b ≠ g := fun e => by
      subst e
      rcases hor with h3 | ⟨cur', h3⟩
      · omega
      · rw [h3] at hg
        injection hg with hg
        injection hg with _ h4
        exact hT h4.symm
    have hbk := hw.2.2.2.2 b hne
    refine ⟨⟨h.1.1, ?_⟩, fun _ => ⟨b, off, cap, rfl, by rw [hw.2.2.2.1]; exact hb, hor.elim .inl fun ⟨cur, hc⟩ => .inr ⟨cur, by rw [hbk]; exact hc⟩⟩⟩
    rcases h.1.2 with ⟨hv, _⟩ | ⟨a, cap', hv, hcap, hc⟩
    · simp at hv
    · obtain ⟨rfl, rfl⟩ : a = ⟨b, off, none⟩ ∧ cap = cap' := ⟨(Option.some.inj (Value.slice.inj hv).1).symm, (Value.slice.inj hv).2.2⟩
      refine .inr ⟨_, cap, rfl, hcap, fun j hj => ?_⟩
      obtain ⟨h1, h2, h3⟩ := hc j hj
      exact ⟨by rw [hw.2.2.2.1]; exact h1, rfl, by rw [World.cell?_of_block (a := ⟨b, off + j, none⟩) hbk]; exact h3⟩
  · obtain rfl : l = [] := List.eq_nil_of_length_eq_zero (by omega)
    refine ⟨⟨byt_nil, ?_⟩, fun h => absurd h h0⟩
    rcases h.1.2 with h | ⟨a, cap, hv, hcap, _⟩
    · exact .inl h
    · exact .inr ⟨a, cap, hv, hcap, fun j hj => absurd hj (Nat.not_lt_zero _)⟩
theorem BBR.wrote {w w' : World} {B g : Nat} {v : Value} {L : List (List Int)} (h : BBR w B v L) (hw : Wrote w w' g) (hB : B ≤ g) {cur : Array Value} {T : TypeId} (hg : w.heap[g]? = some (.cells cur T (0, 0))) (hT : T ≠ 5) (hT2 : T ≠ 40) : BBR w' B v L := by
  obtain ⟨vs, hl, hr, ho⟩ := h
  refine ⟨vs, hl, fun j hj => (hr j hj).wrote hw hB hg hT, ho.1, ?_⟩
  rcases ho.2 with h | ⟨g', cap, cur', hv, hB', hh, r⟩
  · exact .inl h
  · refine .inr ⟨g', cap, cur', hv, hB', ?_, r⟩
    rw [hw.2.2.2.2 g' (fun e => by
      subst e
      rw [hg] at hh
      injection hh with hh
      injection hh with _ h4
      exact hT2 h4)]
    exact hh

set_option maxHeartbeats 1000000 in
theorem tUnpack_of {w : World} {v : Value} {q : Int} {N : List Int} {D L : List (List Int)} (hs : BBSl w v L) (hL : L.length ≤ 1000000) (hlen : N.length + 2 ≤ L.length) (hh : L.getD 0 [] = sealS (headL q N)) (hz : L.getD (L.length - 1) [] = sealS (endL q))
    (hD : (L.drop 1).take N.length = D) (hw : whole D = true) (hN : frmNs N = true) (q0 : 0 ≤ q) (q1 : q < 4294967296) :
    Calls Try.prog 13 #[v] w fun e w' => ∃ u, e = .returned (.tuple #[u, .bool true]) ∧ TxV w' u q N D ∧ Below w.heap.size w w' := by
  have hDl : D.length = N.length := by rw [← hD]; simp; omega
  have h37 := (frmNs_of hN).1
  have hbx := below_box w (.cells #[.int .u32 0, .slice none 0 0, .slice none 0 0] 33)
  have hnx := heap_alloc_new w (.cells #[.int .u32 0, .slice none 0 0, .slice none 0 0] 33)
  have KR := Lib.hid (fun W (hb : Below w.heap.size w W) => tReadH_of (hs.below hb) (by omega) hh hN q0 q1)
  have KE := Lib.hid (fun W => tEnd_of W q0 q1)
  obtain ⟨ao, cap, rfl, hcap, hc⟩ := hs.open'
  obtain ⟨b, off, rfl, hb, hcc⟩ := hc (by omega)
  obtain ⟨u0, hu0, hb0⟩ := hcc (L.length - 1) (by omega)
  rw [hz] at hb0
  have h256 := sealS_length (endL q) (by rw [endL_length]; omega)
  obtain ⟨uo, uc, rfl, _⟩ := hb0.shape
  rw [h256] at hu0 hb0
  have hmid := hs.mid 1 N.length (by omega) D hD
  have KW := Lib.hid (fun W (hb : Below w.heap.size w W) => tWhole_of (hmid.below hb) (by omega))
  rw [hw] at KW
  have KC := Lib.hid (fun W (hb : Below w.heap.size w W) => tCopies_of (hmid.below hb) (by omega) (fun j => by
    by_cases hj : j < D.length
    · rw [(whole_iff D).1 hw j hj]; omega
    · rw [List.getD_eq_getElem?_getD, List.getElem?_eq_none (by omega)]; exact Nat.zero_le _) w.heap.size hb.size)
  have HU0 := Lib.hid hb0
  generalize sealS (endL q) = EB at KE HU0
  have HTX := Lib.hid (fun W (vN vD : Value) (h1 : ISc W vN N) (h2 : BBSl W vD D) => TxV.mk (q := q) h1 h2)
  have HNS := Lib.hid (fun W vN (h : IR W 0 vN N) => h.isc.2)
  obtain ⟨n, hn⟩ : ∃ n, n = N.length := ⟨_, rfl⟩
  obtain ⟨m, hm⟩ : ∃ m, m = L.length := ⟨_, rfl⟩
  rw [← hm] at hlen hcap hu0 hL KR ⊢
  rw [← hn] at hlen h37 KW KC hDl HNS
  have HDL := Lib.hid hDl
  have ew : IntKind.i64.wrap ((m : Int) - 1) = (m : Int) - 1 := IntWalk.i64_in _ (by omega)
  have ew2 : IntKind.i64.wrap ((n : Int) + 2) = (n : Int) + 2 := IntWalk.i64_in _ (by omega)
  have e1 : (0 : Int) ≤ (m : Int) - 1 := by omega
  have e2 : ((m : Int) - 1).toNat = m - 1 := by omega
  have e3 : (m : Int) - 1 < (m : Int) := by omega
  have e4 : ¬ (m : Int) < (n : Int) + 2 := by omega
  have e5 : decide ((m : Int) < (n : Int) + 2) = false := decide_eq_false e4
  have e6 : m - 1 < m := by omega
  have e7 : (1 : Int) ≤ (m : Int) := by omega
  have e8 : 1 ≤ m := by omega
  have e9 : 0 < m := by omega
  have e10 : (0 : Int) < (m : Int) := by omega
  have HE1 : Hid (1 + n - 1 = n) := Lib.hid (by omega)
  have HE2 : Hid ((1 : Int) + (n : Int) = ((1 + n : Nat) : Int)) := Lib.hid (by push_cast; rfl)
  have HE3 : Hid (1 ≤ 1 + n ∧ 1 + n ≤ cap ∧ 1 < cap) := Lib.hid (by omega)
  clear hs hh hz hD hw hN q0 q1 hc hcc hb0 h256 hmid hn hm hDl h37
  go_enter Try.func13, Try.ntmps13
  go_upto_region 1 with (fail)
  have hzu : w.heap.size < (w.alloc (.cells #[.int .u32 0, .slice none 0 0, .slice none 0 0] 33)).heap.size := by simp
  generalize w.alloc (.cells #[.int .u32 0, .slice none 0 0, .slice none 0 0] 33) = w1 at hbx hnx hzu ⊢
  go_wp2_with (go_at_call 24; (with_reducible refine (KR.out _ hbx).mono ?_); rintro e w2 ⟨v2, rfl, hv2, hb2⟩
               obtain ⟨no, nc, rfl, _⟩ := HNS.out _ _ hv2)
  have HB2 : Hid (Below w1.heap.size w1 w2.drew) := Lib.hid (below_drewN' hb2 1)
  have HV2 : Hid (IR w2.drew 0 (.slice no n nc) N) := Lib.hid hv2
  have HBX := Lib.hid hbx
  have HNX := Lib.hid hnx
  have e0 : w2.drew.cell? ⟨b, off + (m - 1), none⟩ = some (.slice uo 256 uc) := ((hbx.trans (HB2.out.mono hbx.size)).cell (p := ⟨b, off + (m - 1), none⟩) hb).trans hu0
  have HU2 := Lib.hid (HU0.out.below (hbx.trans (HB2.out.mono hbx.size)))
  have hz2 : b < w2.drew.heap.size := Nat.lt_of_lt_of_le hb (hbx.trans (HB2.out.mono hbx.size)).size
  clear hv2 hb2 hbx hnx hu0 hb HU0
  go_region_held3 (fun W => W.cell? ⟨b, off + (m - 1), none⟩ = some (.slice uo 256 uc)) (first | exact f0 | exact e0) (first
    | (go_at_call 18; (with_reducible refine (KE.out _).mono ?_); rintro e w5 ⟨v5, rfl, hob5, hb5⟩
       have f0 := (hb5.cell (p := ⟨b, off + (m - 1), none⟩) hz2).trans e0
       have K6 := Lib.hid (bEqual_of (HU2.out.below hb5) hob5.bsl)
       rw [decide_eq_true (rfl : EB = EB)] at K6
       have HB5 := Lib.hid (HB2.out.trans (hb5.mono HB2.out.size))
       have HV5 := Lib.hid (HV2.out.below hb5)
       clear hob5)
    | (go_at_call 25; (with_reducible refine K6.out.mono ?_); rintro e w6 ⟨rfl, rfl⟩))
  have HB05 := Lib.hid (HBX.out.trans (HB5.out.mono HBX.out.size))
  have K7 := Lib.hid (KW.out _ HB05.out)
  have K8 := Lib.hid (KC.out _ HB05.out)
  clear ew ew2 e1 e2 e3 e4 e5 e6 e7 e8 e9 e10 e0 f0 hb5 KW KC KE KR K6
  go_wp2_with (first
    | (with_reducible refine wpList_slice_bb rfl (.tmp 37) (.const (.int .i64 1)) (.tmp 40) rfl b off m cap rfl 1 (1 + (n : Int)) rfl rfl 1 (1 + n) n HE1.out rfl HE2.out HE3.out.1 HE3.out.2.1 HE3.out.2.2 ?_)
    | (go_at_call 22; (with_reducible refine K7.out.mono ?_); rintro e w7 ⟨rfl, rfl⟩)
    | (go_at_call 17; (with_reducible refine K8.out.mono ?_); rintro e w8 ⟨v8, rfl, hv8, hb8⟩
       obtain ⟨co, cc, rfl, _⟩ := hv8.sl.shape
       rw [HDL.out] at hv8 ⊢
       have HV8 := Lib.hid hv8
       have HN8 := Lib.hid (HV5.out.below hb8)
       have hr8 := hold9 HNX.out (HB5.out.trans (hb8.mono HB5.out.size))
       have HB8 := Lib.hid (HB05.out.trans (hb8.mono HB05.out.size))
       clear hv8)
    | (with_reducible refine wpList_store_t3 rfl 33 sizeT (.tmp 2) (.tmp 50) rfl w.heap.size rfl _ _ _ _ _ _ rfl rfl rfl rfl _ hr8 ?_; intro w9 hw9 hr9))
  refine bodyPost_ret (ret_cell_t3 rfl Try.underlying33 sizeT _ _ w.heap.size _ _ _ _ _ rfl hr9 rfl) rfl ⟨_, rfl, ?_, HB8.out.trans (hw9.below (Nat.le_refl _))⟩
  exact HTX.out _ _ _ (HN8.out.wrote hw9 hr8 (by decide)).isc (HV8.out.wrote hw9 (Nat.le_refl _) hr8 (by decide) (by decide)).sl
end Go.Proofs.Ytmjndpmpeidhaaa
