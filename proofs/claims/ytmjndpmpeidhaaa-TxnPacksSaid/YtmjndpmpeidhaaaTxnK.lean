/- The reference's SameTxn, the law's sameBlocks: the same is told to be so; Few, few, Theirs. -/
import Derived.Test.YtmjndpmpeidhaaaTxnJ
namespace Go.Proofs.Ytmjndpmpeidhaaa
open Go.RowKit
set_option linter.unusedVariables false

theorem conv_drewN {w : World} {v : Value} {l : List Int} (hs : BSl w v l) (m : Nat) : (convert 40 9 v).run Try.prog (w.drewN m) = .ok (.string (strOfNums l)) (w.drewN m) := conv_bsl (hs.drewN m)
theorem sameB9_of {w : World} {u v : Value} {L : List (List Int)} (hu : BBSl w u L) (hv : BBSl w v L) (hL : L.length ≤ 1000000) :
    Calls Try.prog 12 #[u, v] w fun e w' => e = .returned (.bool true) ∧ Below w.heap.size w w' := by
  obtain ⟨a1, c1, rfl, _, k1⟩ := hu.open'
  obtain ⟨a2, c2, rfl, _, k2⟩ := hv.open'
  obtain ⟨n, hn⟩ : ∃ n, n = L.length := ⟨_, rfl⟩
  rw [← hn] at k1 k2 hL ⊢
  have K1 := Lib.hid k1
  have K2 := Lib.hid k2
  have hb0 : Below w.heap.size w w := Below.refl _ _
  clear hu hv k1 k2 hn
  go_enter Try.func12, Try.ntmps12
  go_wp2
  go_loopw [13] (fun i wr => ∃ k : Nat, k ≤ n ∧ i = .int .i64 k ∧ Below w.heap.size w wr) (fun i _ => n - (intOf i).toNat)
  case atStart => exact ⟨0, by omega, rfl, hb0⟩
  case round =>
    obtain ⟨k, hk, rfl, hbr⟩ := hrel
    clear hb0
    by_cases hlt : k < n
    · obtain ⟨b1, o1, rfl, hb1, q1⟩ := K1.out (by omega)
      obtain ⟨b2, o2, rfl, hb2, q2⟩ := K2.out (by omega)
      obtain ⟨x1, p1, s1⟩ := q1 k hlt
      obtain ⟨x2, p2, s2⟩ := q2 k hlt
      have e1 := (hbr.cell (p := ⟨b1, o1 + k, none⟩) hb1).trans p1
      have e2 := (hbr.cell (p := ⟨b2, o2 + k, none⟩) hb2).trans p2
      have v1 := conv_bsl (s1.below hbr)
      have v2 := conv_bsl (s2.below hbr)
      have v1d := fun m => conv_drewN (s1.below hbr) m
      have v2d := fun m => conv_drewN (s2.below hbr) m
      obtain ⟨y1, z1, rfl, _⟩ := s1.shape
      obtain ⟨y2, z2, rfl, _⟩ := s2.shape
      obtain ⟨T, hT⟩ : ∃ T, T = strOfNums (L.getD k []) := ⟨_, rfl⟩
      obtain ⟨m, hm⟩ : ∃ m, m = (L.getD k []).length := ⟨_, rfl⟩
      rw [← hT] at v1 v2 v1d v2d
      rw [← hm] at v1 v2 v1d v2d e1 e2
      have ek : (k : Int) < (n : Int) := by omega
      have HBR := Lib.hid hbr
      clear q1 q2 p1 p2 s1 s2 hT hm hbr hb1 hb2
      go_wp2
      go_quiet (fail)
      go_wp2
      go_roundw
      case rel => exact ⟨k + 1, by omega, by go_num, below_drewN' HBR.out nq⟩
      case measure => simp [intOf]; omega
    · obtain rfl : k = n := by omega
      go_wp2
      go_ret
      exact ⟨rfl, hbr⟩
theorem rSameT_of {w : World} {u v : Value} {q : Int} {N : List Int} {D : List (List Int)} (hu : TxV w u q N D) (hv : TxV w v q N D) (hN : N.length ≤ 1000000) (hD : D.length ≤ 1000000) :
    Calls Try.prog 15 #[u, v] w fun e w' => e = .returned (.bool true) ∧ Below w.heap.size w w' := by
  obtain ⟨a1, c1, a2, c2, rfl, hN1, hD1⟩ := hu
  obtain ⟨a3, c3, a4, c4, rfl, hN2, hD2⟩ := hv
  obtain ⟨_, _, t1, k1⟩ := hN1.1.open'
  obtain ⟨rfl, rfl⟩ := And.intro (Value.slice.inj t1).1 (Value.slice.inj t1).2.2
  obtain ⟨_, _, t2, k2⟩ := hN2.1.open'
  obtain ⟨rfl, rfl⟩ := And.intro (Value.slice.inj t2).1 (Value.slice.inj t2).2.2
  obtain ⟨_, _, t3, _, k3⟩ := hD1.open'
  obtain ⟨rfl, rfl⟩ := And.intro (Value.slice.inj t3).1 (Value.slice.inj t3).2.2
  obtain ⟨_, _, t4, _, k4⟩ := hD2.open'
  obtain ⟨rfl, rfl⟩ := And.intro (Value.slice.inj t4).1 (Value.slice.inj t4).2.2
  obtain ⟨n, hn⟩ : ∃ n, n = N.length := ⟨_, rfl⟩
  obtain ⟨m, hm⟩ : ∃ m, m = D.length := ⟨_, rfl⟩
  rw [← hn] at k1 k2 hN ⊢
  rw [← hm] at k3 k4 hD ⊢
  have K1 := Lib.hid k1
  have K2 := Lib.hid k2
  have K3 := Lib.hid k3
  have K4 := Lib.hid k4
  have hbx := below_box w (.cells #[.int .u32 q, .slice a1 n c1, .slice a2 m c2] 26)
  have hnx := heap_alloc_new w (.cells #[.int .u32 q, .slice a1 n c1, .slice a2 m c2] 26)
  have hsx : (w.alloc (.cells #[.int .u32 q, .slice a1 n c1, .slice a2 m c2] 26)).heap.size = w.heap.size + 1 := by simp
  have hby := below_box (w.alloc (.cells #[.int .u32 q, .slice a1 n c1, .slice a2 m c2] 26)) (.cells #[.int .u32 q, .slice a3 n c3, .slice a4 m c4] 26)
  have hny := heap_alloc_new (w.alloc (.cells #[.int .u32 q, .slice a1 n c1, .slice a2 m c2] 26)) (.cells #[.int .u32 q, .slice a3 n c3, .slice a4 m c4] 26)
  clear hN1 hN2 hD1 hD2 t1 t2 t3 t4 k1 k2 k3 k4 hn hm
  go_enter Try.func15, Try.ntmps15
  go_upto_region 1 with (fail)
  rw [hsx] at hny hby
  have hno := (hby.block w.heap.size (by omega)).trans hnx
  have hb2 := hbx.trans (hby.mono (Nat.le_succ _))
  generalize (w.alloc (.cells #[.int .u32 q, .slice a1 n c1, .slice a2 m c2] 26)).alloc (.cells #[.int .u32 q, .slice a3 n c3, .slice a4 m c4] 26) = w2 at hno hny hb2 ⊢
  obtain ⟨d, hd⟩ : ∃ d, d = w.heap.size := ⟨_, rfl⟩
  rw [← hd] at hno hny ⊢
  obtain ⟨f, hf⟩ : ∃ f, f = d + 1 := ⟨_, rfl⟩
  rw [← hf] at hny ⊢
  have d0 : w2.cell? ⟨d, 0, none⟩ = some (.int .u32 q) := by rw [cell_of_row _ _ _ _ _ _ hno]; rfl
  have d1 : w2.cell? ⟨d, 1, none⟩ = some (.slice a1 n c1) := by rw [cell_of_row _ _ _ _ _ _ hno]; rfl
  have d2 : w2.cell? ⟨d, 2, none⟩ = some (.slice a2 m c2) := by rw [cell_of_row _ _ _ _ _ _ hno]; rfl
  have f0 : w2.cell? ⟨f, 0, none⟩ = some (.int .u32 q) := by rw [cell_of_row _ _ _ _ _ _ hny]; rfl
  have f1 : w2.cell? ⟨f, 1, none⟩ = some (.slice a3 n c3) := by rw [cell_of_row _ _ _ _ _ _ hny]; rfl
  have f2 : w2.cell? ⟨f, 2, none⟩ = some (.slice a4 m c4) := by rw [cell_of_row _ _ _ _ _ _ hny]; rfl
  have hzd : d < w2.heap.size := (Array.getElem?_eq_some_iff.1 hno).1
  have hzf : f < w2.heap.size := (Array.getElem?_eq_some_iff.1 hny).1
  have C1 := Lib.hid (fun W (h : Below w2.heap.size w2 W) => (h.cell (p := ⟨d, 1, none⟩) hzd).trans d1)
  have C2 := Lib.hid (fun W (h : Below w2.heap.size w2 W) => (h.cell (p := ⟨d, 2, none⟩) hzd).trans d2)
  have C3 := Lib.hid (fun W (h : Below w2.heap.size w2 W) => (h.cell (p := ⟨f, 1, none⟩) hzf).trans f1)
  have C4 := Lib.hid (fun W (h : Below w2.heap.size w2 W) => (h.cell (p := ⟨f, 2, none⟩) hzf).trans f2)
  have HB2 := Lib.hid hb2
  clear hbx hnx hsx hby hny hno hb2 hd hf hzd hzf
  go_wp2
  clear d0 d1 d2 f0 f1 f2
  have hb0 : Below w2.heap.size w2 w2 := Below.refl _ _
  go_loopw [33] (fun i wr => ∃ k : Nat, k ≤ n ∧ i = .int .i64 k ∧ Below w2.heap.size w2 wr) (fun i _ => n - (intOf i).toNat)
  case atStart => exact ⟨0, by omega, rfl, hb0⟩
  case round =>
    obtain ⟨k, hk, rfl, hbr⟩ := hrel
    clear hb0
    have d1 := C1.out _ hbr
    have f1 := C3.out _ hbr
    have HBR := Lib.hid hbr
    have hb0r := HB2.out.trans (hbr.mono HB2.out.size)
    by_cases hlt : k < n
    · obtain ⟨b1, o1, rfl, hb1, q1⟩ := K1.out (by omega)
      obtain ⟨b2, o2, rfl, hb2, q2⟩ := K2.out (by omega)
      have e1 := (hb0r.cell (p := ⟨b1, o1 + k, none⟩) hb1).trans (q1 k hlt)
      have e2 := (hb0r.cell (p := ⟨b2, o2 + k, none⟩) hb2).trans (q2 k hlt)
      generalize N.getD k 0 = x at e1 e2
      have ek : (k : Int) < (n : Int) := by omega
      clear q1 q2 hb1 hb2 hbr hb0r
      go_wp2
      go_quiet (fail)
      go_wp2
      go_roundw
      case rel => exact ⟨k + 1, by omega, by go_num, below_drewN' HBR.out nq⟩
      case measure => simp [intOf]; omega
    · obtain rfl : k = n := by omega
      have d2 := C2.out _ hbr
      clear hbr hb0r
      go_wp2
      clear d1 d2 f1
      have HBW := Lib.hid (Below.refl wr.heap.size wr)
      go_loopw [51] (fun i wi => ∃ j : Nat, j ≤ m ∧ i = .int .i64 j ∧ Below w2.heap.size w2 wi) (fun i _ => m - (intOf i).toNat)
      case atStart => exact ⟨0, by omega, rfl, HBR.out⟩
      case round =>
        obtain ⟨j, hj, rfl, hbi⟩ := hrel
        have d2 := C2.out _ hbi
        have f2 := C4.out _ hbi
        have HBI := Lib.hid hbi
        have hb0i := HB2.out.trans (hbi.mono HB2.out.size)
        by_cases hlj : j < m
        · obtain ⟨b1, o1, rfl, hb1, q1⟩ := K3.out (by omega)
          obtain ⟨b2, o2, rfl, hb2, q2⟩ := K4.out (by omega)
          obtain ⟨x1, p1, s1⟩ := q1 j hlj
          obtain ⟨x2, p2, s2⟩ := q2 j hlj
          have e1 := (hb0i.cell (p := ⟨b1, o1 + j, none⟩) hb1).trans p1
          have e2 := (hb0i.cell (p := ⟨b2, o2 + j, none⟩) hb2).trans p2
          have v1 := conv_bsl (s1.below hb0i)
          have v2 := conv_bsl (s2.below hb0i)
          have v1d := fun m => conv_drewN (s1.below hb0i) m
          have v2d := fun m => conv_drewN (s2.below hb0i) m
          obtain ⟨y1, z1, rfl, _⟩ := s1.shape
          obtain ⟨y2, z2, rfl, _⟩ := s2.shape
          obtain ⟨T, hT⟩ : ∃ T, T = strOfNums (D.getD j []) := ⟨_, rfl⟩
          obtain ⟨l, hl⟩ : ∃ l, l = (D.getD j []).length := ⟨_, rfl⟩
          rw [← hT] at v1 v2 v1d v2d
          rw [← hl] at v1 v2 v1d v2d e1 e2
          have ej : (j : Int) < (m : Int) := by omega
          clear q1 q2 p1 p2 s1 s2 hT hl hbi hb0i hb1 hb2
          go_wp2
          go_quiet (fail)
          go_wp2
          go_roundw
          case rel => exact ⟨j + 1, by omega, by go_num, below_drewN' HBI.out nq⟩
          case measure => simp [intOf]; omega
        · obtain rfl : j = m := by omega
          clear hbi
          go_wp2
          go_ret
          exact ⟨rfl, hb0i⟩
end Go.Proofs.Ytmjndpmpeidhaaa
