/- Contracts of package txn: readNumbers, readHead, Seq, of blocks that begin with a head. -/
import Derived.Test.YtmjndpmpeidhaaaTxnE
import Derived.Test.YtmjndpmpeidhaaaPackD
import Derived.Test.YtmjndpmpeidhaaaPackN
import Derived.Test.YtmjndpmpeidhaaaMemQ
import Derived.Test.YtmjndpmpeidhaaaInoA
namespace Go.Proofs.Ytmjndpmpeidhaaa
open Go.RowKit
set_option linter.unusedVariables false

/-- make([]int, n), n a uint64. -/
theorem wpList_make_int64 (w : World) {ops : Array Oper} {rest : List Oper} {o : Oper} {a : Act} {Q : Exit → Act → World → Prop}
    (hg : o.guard = none) (l c : Operand) (hop : o.op = Op.makeSlice 23 l c) (C : Int) (n : Nat) (hl : a.eval l = .int .u64 C) (hc : a.eval c = .int .u64 C) (hC : C = n) (hn : n ≤ 1000000)
    (hK : wpList Try.prog ops Q rest (a.put o.dst (.slice (some ⟨w.heap.size, 0, none⟩) n n)) (w.alloc (iO (List.replicate n 0) 3))) :
    wpList Try.prog ops Q (o :: rest) a w := by
  refine wpList_plain hg fun K hK' => ?_
  obtain ⟨i, h2, h3, h4, h5⟩ := info_parts infoI64
  subst hC
  have hrun := run_make (P := Try.prog) w 23 3 i (.int .i64 0) Try.underlying23 h2 h3 .u64 .u64 n n (by omega) (by omega) (by rw [h5]; omega) (by omega)
  unfold Oper.wp
  simp only [Int.toNat_natCast, h4, Nat.mul_one, made_int] at hrun
  simp [execOp, hop, hl, hc, hrun, Result.andThen]
  exact hK' _ _ hK
/-- A row of numbers of which k are laid. -/
def RowI (w : World) (g : Nat) (N : List Int) (k : Nat) : Prop := ∃ l : List Int, l.length = N.length ∧ w.heap[g]? = some (iO l 3) ∧ ∀ j, j < k → l.getD j 0 = N.getD j 0
theorem RowI.make (w : World) (N : List Int) : RowI (w.alloc (iO (List.replicate N.length 0) 3)) w.heap.size N 0 :=
  ⟨List.replicate N.length 0, List.length_replicate, heap_alloc_new w _, fun j hj => absurd hj (Nat.not_lt_zero _)⟩
theorem RowI.row {w : World} {g : Nat} {N : List Int} {k : Nat} (h : RowI w g N k) : ∃ l : List Int, l.length = N.length ∧ w.heap[g]? = some (iO l 3) := by
  obtain ⟨l, h1, h2, _⟩ := h
  exact ⟨l, h1, h2⟩
theorem RowI.set {w : World} {g : Nat} {N : List Int} {k : Nat} (h : RowI w g N k) (hk : k < N.length) {y : Int} (hy : y = N.getD k 0) : RowI (w.setCell ⟨g, k, none⟩ (.int .i64 y)) g N (k + 1) := by
  obtain ⟨l, h1, h2, h3⟩ := h
  refine ⟨l.set k y, by rw [List.length_set]; exact h1, io_set h2 k y, fun j hj => ?_⟩
  by_cases e : j = k
  · subst e
    have hjl : j < l.length := by omega
    rw [← hy]
    simp [List.getD_eq_getElem?_getD, hjl]
  · rw [List.getD_eq_getElem?_getD, List.getElem?_set_ne (by omega), ← List.getD_eq_getElem?_getD]
    exact h3 j (by omega)
theorem RowI.done {w : World} {B g : Nat} {N : List Int} (h : RowI w g N N.length) (hB : B ≤ g) (hm : N.length ≤ 1000000) : IR w B (.slice (some ⟨g, 0, none⟩) N.length N.length) N := by
  obtain ⟨l, h1, h2, h3⟩ := h
  have e : l = N := by
    apply List.ext_getElem h1
    intro i a b
    have := h3 i b
    simpa [List.getD_eq_getElem?_getD, a, b] using this
  subst e
  exact IR.of_row hB h2 (by unfold maxLen; omega)

theorem IR.more9 {w : World} {B : Nat} {v : Value} {l : List Int} (h : IR w B v l) : IR w 0 v l := by
  refine ⟨h.1, ?_⟩
  rcases h.2 with h | ⟨g, cap, cur, hv, hg, r⟩
  · exact .inl h
  · exact .inr ⟨g, cap, cur, hv, Nat.zero_le _, r⟩
theorem tReadN_of {w : World} {v : Value} {c : List Int} {N : List Int} (hs : BSl w v c) (hc : c.length = 252) (h37 : N.length ≤ 37) (hcnt : getV c 8 2 = (N.length : Int)) (hnum : ∀ i, i < N.length → getV c (10 + 2 * i) 2 = N.getD i 0)
    (hx : ∀ i, i < N.length → 0 ≤ N.getD i 0 ∧ N.getD i 0 ≤ 767) (B : Bool) (hB : frmNs N = B) :
    Calls Try.prog 33 #[v] w fun e w' => ∃ u, e = .returned (.tuple #[u, .bool B]) ∧ IR w' 0 u N ∧ Below w.heap.size w w' := by
  have KN := Lib.hid (fun W u (h : ISc W u N) => tFormN_of h)
  rw [hB] at KN
  have K8 := Lib.hid (pGetW hs (by omega) 8 2 8 2 rfl rfl (by omega) (by omega) (by omega) _ hcnt.symm)
  have KG := Lib.hid (fun W (hb : Below w.heap.size w W) i (hi : i < N.length) (A : Int) (hA : A = ((10 + 2 * i : Nat) : Int)) => pGetW (hs.below hb) (by omega) (10 + 2 * i) 2 A 2 hA rfl (by omega) (by omega) (by omega) _ (hnum i hi).symm)
  have HX := Lib.hid hx
  have HR0 := Lib.hid (RowI.make w N)
  have HDN := Lib.hid (fun W (h : RowI W w.heap.size N N.length) => (h.done (Nat.le_refl _) (by omega)).more9)
  have HST := Lib.hid (fun W k (h : RowI W w.heap.size N k) hk y hy => h.set hk (y := y) hy)
  have HRW := Lib.hid (fun W k (h : RowI W w.heap.size N k) => h.row)
  obtain ⟨ao, cap, rfl, _⟩ := hs.shape
  obtain ⟨n, hn⟩ : ∃ n, n = N.length := ⟨_, rfl⟩
  rw [← hn] at K8 KG HX HR0 HDN HST HRW h37
  rw [hc] at K8 KG ⊢
  have hbx := below_box w (iO (List.replicate n 0) 3)
  have hn37 : ¬ (37 : Int) < (n : Int) := by omega
  have hnm : n ≤ 1000000 := by omega
  clear hs hc hcnt hnum hx hB hn
  go_enter Try.func33, Try.ntmps33
  go_wp2_with (first
    | (go_at_call 32; (with_reducible refine K8.out.mono ?_); rintro e w2 ⟨rfl, rfl⟩)
    | (at_make; refine wpList_make_int64 w rfl _ _ rfl (n : Int) n rfl rfl rfl hnm ?_))
  generalize w.alloc (iO (List.replicate n 0) 3) = w1 at hbx HR0 ⊢
  have HBX := Lib.hid hbx
  obtain ⟨g, hg⟩ : ∃ g, g = w.heap.size := ⟨_, rfl⟩
  rw [← hg] at HR0 HDN HST HRW ⊢
  have HG := Lib.hid hg
  clear hbx hg
  go_loopw [21] (fun i wr => ∃ k : Nat, k ≤ n ∧ i = .int .i64 k ∧ Hid (RowI wr g N k) ∧ Hid (Below w.heap.size w wr)) (fun i _ => n - (intOf i).toNat)
  case atStart => exact ⟨0, by omega, rfl, HR0, HBX⟩
  case round =>
    obtain ⟨k, hk, rfl, HR, HB⟩ := hrel
    clear HR0 HBX K8
    by_cases hlt : k < n
    · have KK := Lib.hid (KG.out _ HB.out k hlt (10 + (k : Int) * 2) (by push_cast; omega))
      obtain ⟨x0, x1⟩ := HX.out k hlt
      obtain ⟨l, hl1, hl2⟩ := HRW.out _ k HR.out
      have hst := HST.out _ k HR.out hlt _ rfl
      obtain ⟨x, hxx⟩ : ∃ x, x = N.getD k 0 := ⟨_, rfl⟩
      rw [← hxx] at KK x0 x1 hst
      have HS1 := Lib.hid hst
      have hfz := io_free hl2 k
      have hce : ∃ z, wr.cell? ⟨g, k, none⟩ = some z := by
        by_cases hkl : k < l.length
        · exact ⟨_, io_cell hl2 k hkl⟩
        · exact absurd (Nat.lt_of_lt_of_le hlt (Nat.le_of_not_lt fun h => hkl (by omega))) (Nat.lt_irrefl _)
      obtain ⟨z, hz⟩ := hce
      have ek : (k : Int) < (n : Int) := by omega
      have hwx : IntKind.i64.wrap x = x := IntWalk.i64_in _ (by omega)
      clear hxx hst hl1 hl2
      go_wp2_with (go_at_call 32; (with_reducible refine KK.out.mono ?_); rintro e w2 ⟨rfl, rfl⟩)
      go_roundw
      case rel => exact ⟨k + 1, by omega, by go_num, HS1, HB.out.trans ((Wrote.setCell wr g k _).below (by rw [HG.out]; exact Nat.le_refl _))⟩
      case measure => simp [intOf]; omega
    · obtain rfl : k = n := by omega
      have KF := Lib.hid (KN.out _ _ (HDN.out _ HR.out).isc)
      go_wp2_with (go_at_call 21; (with_reducible refine KF.out.mono ?_); rintro e w2 ⟨rfl, rfl⟩)
      go_ret2
      exact ⟨_, rfl, HDN.out _ HR.out, HB.out⟩
end Go.Proofs.Ytmjndpmpeidhaaa
