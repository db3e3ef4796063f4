/- Contracts of package txn: Formed; of bytes.Clone. -/
import Derived.Test.YtmjndpmpeidhaaaTxnA
import Derived.Deep.Cut
namespace Go.Proofs.Ytmjndpmpeidhaaa
open Go.RowKit
set_option linter.unusedVariables false

/-- A value of a transaction's type that reads as q, N, D. -/
def TxV (w : World) (v : Value) (q : Int) (N : List Int) (D : List (List Int)) : Prop :=
  ∃ no nc ao dc, v = .agg #[.int .u32 q, .slice no N.length nc, .slice ao D.length dc] ∧ ISc w (.slice no N.length nc) N ∧ BBSl w (.slice ao D.length dc) D
theorem TxV.below {w w' : World} {v : Value} {q : Int} {N : List Int} {D : List (List Int)} (h : TxV w v q N D) (hb : Below w.heap.size w w') : TxV w' v q N D := by
  obtain ⟨no, nc, ao, dc, h1, h2, h3⟩ := h
  exact ⟨no, nc, ao, dc, h1, h2.below hb, h3.below hb⟩
theorem TxV.mk {w : World} {vN vD : Value} {q : Int} {N : List Int} {D : List (List Int)} (hN : ISc w vN N) (hD : BBSl w vD D) : TxV w (.agg #[.int .u32 q, vN, vD]) q N D := by
  have hN' := hN
  obtain ⟨_, no, nc, rfl, _⟩ := hN
  obtain ⟨ao, dc, rfl, _⟩ := hD.shape
  exact ⟨no, nc, ao, dc, rfl, hN', hD⟩
theorem tForm_is {w : World} {v : Value} {q : Int} {N : List Int} {D : List (List Int)} (h : TxV w v q N D) (B : Bool) (hB : frmT N D = B) : Calls Try.prog 10 #[v] w fun e w' => e = .returned (.bool B) ∧ Below w.heap.size w w' := by
  obtain ⟨no, nc, ao, dc, rfl, hN, hD⟩ := h
  obtain ⟨n, hn⟩ : ∃ n, n = N.length := ⟨_, rfl⟩
  obtain ⟨m, hm⟩ : ∃ m, m = D.length := ⟨_, rfl⟩
  rw [frmT_parts, ← hn, ← hm] at hB
  have KN := Lib.hid (fun W (hb : Below w.heap.size w W) => tFormN_of (hN.below hb))
  have KD := Lib.hid (fun W (hb : Below w.heap.size w W) (hl : D.length ≤ 1000000) => tWhole_of (hD.below hb) hl)
  have HL := Lib.hid (fun (h : frmNs N = true) => (frmNs_of h).1)
  rw [← hn] at KN HL ⊢
  rw [← hm] at KD ⊢
  have hbx := below_box w (.cells #[.int .u32 q, .slice no n nc, .slice ao m dc] 33)
  have hnx := heap_alloc_new w (.cells #[.int .u32 q, .slice no n nc, .slice ao m dc] 33)
  clear hN hD hn hm
  go_enter Try.func10, Try.ntmps10
  go_upto_region 1 with (fail)
  generalize w.alloc (.cells #[.int .u32 q, .slice no n nc, .slice ao m dc] 33) = u at hbx hnx ⊢
  have KN1 := Lib.hid (KN.out _ hbx)
  have KD1 := Lib.hid (KD.out _ hbx)
  have HBX := Lib.hid hbx
  clear KN KD hbx
  have d1 : u.cell? ⟨w.heap.size, 1, none⟩ = some (.slice no n nc) := by rw [cell_of_row _ _ _ _ _ _ hnx]; rfl
  have d2 : u.cell? ⟨w.heap.size, 2, none⟩ = some (.slice ao m dc) := by rw [cell_of_row _ _ _ _ _ _ hnx]; rfl
  clear hnx
  obtain ⟨F, hF⟩ : ∃ F, frmNs N = F := ⟨_, rfl⟩
  obtain ⟨G, hG⟩ : ∃ G, whole D = G := ⟨_, rfl⟩
  rw [hF, hG] at hB
  rw [hF] at KN1 HL
  rw [hG] at KD1
  have HLE := Lib.hid (fun (h : F = true) (h2 : m = n) => show m ≤ 1000000 by have := HL.out h; omega)
  clear hF hG HL
  cases F
  · rw [Bool.false_and] at hB
    subst hB
    go_wp2_with (go_at_call 21; (with_reducible refine KN1.out.mono ?_); rintro e w2 ⟨rfl, rfl⟩)
    go_ret
    exact ⟨rfl, HBX.out⟩
  · by_cases hmn : m = n
    · have hle := HLE.out rfl hmn
      rw [decide_eq_true hmn, Bool.true_and, Bool.true_and] at hB
      subst hB
      subst hmn
      have KD2 := Lib.hid (KD1.out hle)
      clear hle HLE KD1
      go_wp2_with (first
        | (go_at_call 21; (with_reducible refine KN1.out.mono ?_); rintro e w2 ⟨rfl, rfl⟩)
        | (go_at_call 22; (with_reducible refine KD2.out.mono ?_); rintro e w3 ⟨rfl, rfl⟩))
      go_ret
      exact ⟨rfl, HBX.out⟩
    · rw [decide_eq_false hmn, Bool.false_and, Bool.and_false] at hB
      subst hB
      have hne : ¬ (m : Int) = (n : Int) := by omega
      have hne2 : ((m : Int) == (n : Int)) = false := by simpa using hne
      have hne3 : decide ((m : Int) = (n : Int)) = false := decide_eq_false hne
      clear HLE KD1 hmn
      go_wp2_with (go_at_call 21; (with_reducible refine KN1.out.mono ?_); rintro e w2 ⟨rfl, rfl⟩)
      go_ret
      exact ⟨rfl, HBX.out⟩

theorem ob_nil9 (w : World) (B : Nat) : OB w B (.slice none 0 0) [] := ⟨byt_nil, World.ownsRow_nil w B _ _⟩
theorem bClone_of {w : World} {v : Value} {l : List Int} (hs : BSl w v l) (hl : l.length ≤ 1000000) : Calls Try.prog 28 #[v] w (NewB w l) := by
  have hs' := hs
  rcases hs.2 with ⟨rfl, rfl⟩ | ⟨a, cap, rfl, hcap, hc⟩
  · clear hs hs' hl
    have he : ∀ w : World, (binOp .eql 40 (.slice none 0 0) (.slice none 0 0)).run Try.prog w = .ok (.bool true) w := fun _ => rfl
    go_enter Try.func28, Try.ntmps28
    go_wp2
    go_ret
    exact ⟨_, rfl, ob_nil9 _ _, Below.refl _ _⟩
  · have HS := Lib.hid hs'
    have HL : Hid (0 + l.length ≤ 140737488355328) := Lib.hid (by omega)
    have H0 := Lib.hid (ob_empty w)
    have hb0 := below_box w (.cells #[] 5)
    have HK := Lib.hid (fun (p : Addr) (hp : p.block < w.heap.size) => World.cell?_alloc_lt w (.cells #[] 5) p hp)
    have hsz : w.heap.size ≤ (w.alloc (.cells #[] 5)).heap.size := by simp
    clear hs hs' hc hl
    have he : ∀ w : World, (binOp .eql 40 (.slice (some a) l.length cap) (.slice none 0 0)).run Try.prog w = .ok (.bool false) w := fun _ => rfl
    go_enter Try.func28, Try.ntmps28
    go_wp2_with (at_builtin; refine wpList_append_bytes _ rfl (.tmp 5) (.tmp 6) rfl w.heap.size _ [] rfl H0.out w _ l rfl HS.out HK.out HL.out hsz ?_
                 intro v3 w3 hob3 hb3 _)
    go_ret
    exact ⟨_, rfl, hob3, hb0.trans hb3⟩
end Go.Proofs.Ytmjndpmpeidhaaa
