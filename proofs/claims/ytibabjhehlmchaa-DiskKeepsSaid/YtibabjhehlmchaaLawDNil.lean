/- Layer 3's law: Few; DiskNil. -/
import Derived.Test.YtibabjhehlmchaaAwake3
import Derived.Deep.RegionHeld
namespace Go.Proofs.Ytibabjhehlmchaa
open Go.RowKit
set_option linter.unusedVariables false

/-- A script that lies at a: its elements' slices (3: Bytes, 4: Keep) are there. -/
def OpsL (w : World) (v : Value) (n : Nat) : Prop :=
  ((∃ ao cap, v = .slice ao 0 cap) ∧ n = 0) ∨ ∃ b off cap, v = .slice (some ⟨b, off, none⟩) n cap ∧ ∀ i, i < n → b < w.heap.size ∧
    (∃ ao l c, w.cell? ⟨b, off + i * 5 + 3, none⟩ = some (.slice ao l c)) ∧ (∃ ao l c, w.cell? ⟨b, off + i * 5 + 4, none⟩ = some (.slice ao l c))
theorem OpsL.shape {w : World} {v : Value} {n : Nat} (h : OpsL w v n) : ∃ ao cap, v = .slice ao n cap := by
  rcases h with ⟨⟨ao, cap, hv⟩, h0⟩ | ⟨b, off, cap, hv, _⟩
  · exact ⟨ao, cap, by rw [hv, h0]⟩
  · exact ⟨_, cap, hv⟩

def FewR (n : Nat) (w : World) (e : Ending) (w' : World) : Prop := ∃ b : Bool, e = .returned (.bool b) ∧ (b = true → n ≤ 100) ∧ w = w'

theorem few3_any {w : World} {v : Value} {n : Nat} (h : OpsL w v n) : Calls Try.prog 7 #[v] w (FewR n w) := by
  obtain ⟨ao, cap, rfl⟩ := h.shape
  go_enter Try.func7, Try.ntmps7
  go_wp2
  go_loop [3, 7] (fun c i => ∃ (k : Nat) (m : Int), k ≤ n ∧ k ≤ 100 ∧ i = .int .i64 k ∧ c = .int .i64 m)
    (fun _ i => n - (intOf i).toNat)
  case atStart => exact ⟨0, 0, by omega, by omega, rfl, rfl⟩
  case round =>
    obtain ⟨k, m, hk, hk2, rfl, rfl⟩ := hrel
    by_cases hlt : k < n
    · have hlt' : (k : Int) < (n : Int) := by omega
      rcases h with ⟨_, h0⟩ | ⟨b, off, cp, hv, hc⟩
      · omega
      · obtain ⟨rfl, rfl⟩ : ao = some ⟨b, off, none⟩ ∧ cap = cp := ⟨(Value.slice.inj hv).1, (Value.slice.inj hv).2.2⟩
        obtain ⟨_, ⟨a3, l3, p3, c3⟩, ⟨a4, l4, p4, c4⟩⟩ := hc k hlt
        clear hv hc
        go_wp2_with fail
        any_goals (go_ret; exact ⟨false, rfl, fun h => by simp at h, rfl⟩)
        · have hk3 : ¬ (100 ≤ (k : Int)) := by simp_all
          go_round
          case rel => exact ⟨k + 1, _, by omega, by omega, by go_num, rfl⟩
          case measure => simp [intOf]; omega
    · have hge : ¬ (k : Int) < (n : Int) := by omega
      go_wp2_with fail
      go_ret
      exact ⟨true, rfl, fun _ => by omega, rfl⟩

theorem box_cells {w W : World} {c0 c1 c2 c3 c4 : Value} {t : TypeId} (hb : Below (w.alloc (.cells #[c0, c1, c2, c3, c4] t)).heap.size (w.alloc (.cells #[c0, c1, c2, c3, c4] t)) W) :
    W.cell? ⟨w.heap.size, 0, none⟩ = some c0 ∧ W.cell? ⟨w.heap.size, 1, none⟩ = some c1 ∧ W.cell? ⟨w.heap.size, 2, none⟩ = some c2 ∧ W.cell? ⟨w.heap.size, 3, none⟩ = some c3 ∧ W.cell? ⟨w.heap.size, 4, none⟩ = some c4 := by
  have h : W.heap[w.heap.size]? = some (.cells #[c0, c1, c2, c3, c4] t (0, 0)) := by rw [hb.block _ (by simp)]; exact heap_alloc_last _ _
  refine ⟨?_, ?_, ?_, ?_, ?_⟩ <;> (rw [cell_of_row _ _ _ _ _ _ h]; rfl)
theorem ops_one (w : World) (c0 c1 c2 : Value) (ab ak : Option Addr) (lb cb lk ck : Nat) : OpsL (w.alloc (.cells #[c0, c1, c2, .slice ab lb cb, .slice ak lk ck] 32)) (.slice (some ⟨w.heap.size, 0, none⟩) 1 1) 1 := by
  refine .inr ⟨w.heap.size, 0, 1, rfl, fun i hi => ?_⟩
  obtain rfl : i = 0 := by omega
  have h := heap_alloc_last w (.cells #[c0, c1, c2, .slice ab lb cb, .slice ak lk ck] 32)
  exact ⟨by simp, ⟨ab, lb, cb, by rw [cell_of_row _ _ _ _ _ _ h]; rfl⟩, ⟨ak, lk, ck, by rw [cell_of_row _ _ _ _ _ _ h]; rfl⟩⟩

set_option maxRecDepth 100000 in
set_option maxHeartbeats 6000000 in
theorem lDNil_any {w : World} (kind n x : Int) (hx : 0 ≤ x ∧ x ≤ 255) {vb : Value} {l : List Int} (hb : BSl w vb l) {ak : Option Addr} {lk ck : Nat} :
    Calls Try.prog 4 #[.agg #[.int .i64 kind, .int .i64 n, .int .u8 x, vb, .slice ak lk ck]] w fun e w' => e = .returned (.bool true) ∧ Below w.heap.size w w' := by
  obtain ⟨ab, cb, rfl, _⟩ := hb.shape
  obtain ⟨lb, hlb⟩ : ∃ lb, lb = l.length := ⟨_, rfl⟩
  rw [← hlb] at hb ⊢
  clear hlb
  have h0 : Below w.heap.size w (w.alloc (.cells #[.int .i64 kind, .int .i64 n, .int .u8 x, .slice ab lb cb, .slice ak lk ck] 32)) := (Below.refl _ _).alloc (Nat.le_refl _) _
  go_enter Try.func4, Try.ntmps4
  go_wp2_with (first
    | (go_at_call 6; refine (awake3_any _).mono ?_; rintro e w1 ⟨rfl, hb1⟩
       try obtain ⟨k0, k1, k2, k3, k4⟩ := box_cells hb1
       try have hbs := (h0.mono (Nat.le_refl _)).trans (hb1.mono h0.size))
    | (go_at_call 7; refine (few3_any (ops_one w1 _ _ _ _ _ _ _ _ _)).mono ?_; rintro e w2 ⟨b, rfl, _, rfl⟩
       have hbx := hb1.alloc hb1.size (.cells #[.int .i64 kind, .int .i64 n, .int .u8 x, .slice ab lb cb, .slice ak lk ck] 32)
       obtain ⟨k0, k1, k2, k3, k4⟩ := box_cells hbx
       cases b)
    | (go_at_call 15; refine (nSetFuse _ _).mono ?_; rintro e w2 ⟨rfl, rfl⟩)
    | (go_at_call 12; refine (nCrash _ _ _ _).mono ?_; rintro e w3 ⟨rfl, hb3⟩
       have hby := hbx.trans (hb3.mono hbx.size)
       obtain ⟨k0, k1, k2, k3, k4⟩ := box_cells hby)
    | (go_at_call 13; refine (nRead _ _).mono ?_; rintro e w2 ⟨rfl, rfl⟩))
  · go_ret
    exact ⟨rfl, (hbs.alloc hbs.size _).trans (hb1.mono (hbs.alloc hbs.size _).size)⟩
  have hbw := h0.trans (hby.mono h0.size)
  have HC := fun (W : World) (h : Below w3.heap.size w3 W) => box_cells (hby.trans (h.mono hby.size))
  have C0 := fun W h => (HC W h).1
  have C1 := fun W h => (HC W h).2.1
  have C2 := fun W h => (HC W h).2.2.1
  have C3 := fun W h => (HC W h).2.2.2.1
  have C4 := fun W h => (HC W h).2.2.2.2
  have HB : ∀ W, Below w3.heap.size w3 W → Calls Try.prog 10 #[.agg #[.int .i64 kind, .int .i64 n, .int .u8 x, .slice ab lb cb, .slice ak lk ck]] W fun e w' => ∃ v, e = .returned v ∧ Below w3.heap.size w3 w' := fun W h =>
    (opBlock3_any kind n x hx (hb.below (hbw.trans (h.mono hbw.size)))).mono fun e w' ⟨v, he, _, hb'⟩ => ⟨v, he, h.trans (hb'.mono h.size)⟩
  have HD : ∀ W v, Below w3.heap.size w3 W → Calls Try.prog 16 #[.pointer none, .int .i64 n, v] W fun e w' => e = .returned (.int .i64 1) ∧ Below w3.heap.size w3 w' := fun W v h =>
    (nDamage n v W).mono fun e w' ⟨he, hb'⟩ => ⟨he, h.trans (hb'.mono h.size)⟩
  have HCut : ∀ W, Below w3.heap.size w3 W → Calls Try.prog 17 #[.pointer none, .int .i64 n] W fun e w' => e = .returned (.int .i64 1) ∧ Below w3.heap.size w3 w' := fun W h =>
    (nCut n W).mono fun e w' ⟨he, hb'⟩ => ⟨he, h.trans (hb'.mono h.size)⟩
  clear HC hby hbx hb hb1 hb3 hbs h0 k0 k1 k2 k3 k4
  have hbd : Below w3.heap.size w3 w3.drew := (Below.refl _ _).drew
  go_region_held (fun W => Below w3.heap.size w3 W) (go_keep)
    (first
      | (go_at_call 10; refine (HB _ (by assumption)).mono ?_; rintro e w4 ⟨v4, rfl, hb4⟩)
      | (go_at_call 9; refine (nWrite _ _ _).mono ?_; rintro e w4 ⟨rfl, rfl⟩)
      | (go_at_call 11; refine (nFlush _).mono ?_; rintro e w4 ⟨rfl, rfl⟩)
      | (go_at_call 16; refine (HD _ _ (by assumption)).mono ?_; rintro e w4 ⟨rfl, hb4⟩)
      | (go_at_call 17; refine (HCut _ (by assumption)).mono ?_; rintro e w4 ⟨rfl, hb4⟩)
      | (go_at_call 18; refine (nBlocks _).mono ?_; rintro e w4 ⟨rfl, rfl⟩)
      | (go_at_call 19; refine (nDown _).mono ?_; rintro e w4 ⟨rfl, rfl⟩)
      | (go_at_call 14; refine (nUnflushed _).mono ?_; rintro e w4 ⟨rfl, rfl⟩))
  all_goals
    clear HB HD HCut C0 C1 C2 C3 C4
    go_wp2_with fail
    go_ret
    exact ⟨rfl, hbw.trans (hb4.mono hbw.size)⟩
theorem lDNil_of {w : World} {v : Value} {o : OpV} (h : ∃ vb ao l c, v = .agg #[.int .i64 o.kind, .int .i64 o.n, .int .u8 o.byte, vb, .slice ao l c] ∧ (0 ≤ o.byte ∧ o.byte ≤ 255) ∧ BSl w vb o.bytes) :
    Calls Try.prog 4 #[v] w fun e w' => e = .returned (.bool true) ∧ Below w.heap.size w w' := by
  obtain ⟨vb, ao, l, c, rfl, hx, hb⟩ := h
  exact lDNil_any _ _ _ hx hb
end Go.Proofs.Ytibabjhehlmchaa
