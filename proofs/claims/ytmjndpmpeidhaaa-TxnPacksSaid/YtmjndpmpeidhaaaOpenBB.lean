/- Slices of bytes, of numbers, of slices of bytes, within what was read: opened to their cells, each with its reach. -/
import Derived.Test.YtmjndpmpeidhaaaMemB
import Derived.Test.YtmjndpmpeidhaaaMemI
import Derived.Deep.Slices
import Derived.Deep.Fields
import Derived.ProofKit
import Derived.OpenShut
import Derived.SizedLaws
namespace Go.Proofs.Ytmjndpmpeidhaaa
open Go.RowKit Go.ChangeShapes Go.WideShapes
set_option linter.unusedVariables false

/-- Each slice and string that is reached is within the reach. -/
def Fit9 {H : Type} (t : TypeId) (d : DataW H) : Prop := ∀ n ∈ d.weights Try.prog t, n ≤ reachBytes
theorem weights_all_mem {H : Type} {P : Program} {e : TypeId} : ∀ {ds : List (DataW H)} {i : Nat} {d : DataW H}, ds[i]? = some d → ∀ n ∈ d.weights P e, n ∈ DataW.weightsAll P e ds
  | [], i, d, h => by simp at h
  | x :: ds, 0, d, h => fun n hn => by
    obtain rfl : x = d := by simpa using h
    unfold DataW.weightsAll
    exact List.mem_append_left _ hn
  | x :: ds, i + 1, d, h => fun n hn => by
    unfold DataW.weightsAll
    exact List.mem_append_right _ (weights_all_mem (by simpa using h) n hn)
theorem Fit9.slice {H : Type} {t e : TypeId} {elems spare : List (DataW H)} (hu : Try.prog.underlying t = some (.slice e)) (h : Fit9 t (.slice elems spare)) :
    (elems.length + spare.length) * Try.prog.bytesOf e ≤ reachBytes ∧ ∀ (i : Nat) (d : DataW H), elems[i]? = some d → Fit9 e d := by
  unfold Fit9 at h
  unfold DataW.weights at h
  rw [hu] at h
  exact ⟨h _ (List.mem_cons_self ..), fun i d hd n hn => h n (List.mem_cons_of_mem _ (List.mem_append_left _ (weights_all_mem hd n hn)))⟩
theorem Fit9.struct {H : Type} {t : TypeId} {fs : Array Field} {parts : List (DataW H)} (hu : Try.prog.underlying t = some (.struct fs)) (h : Fit9 t (.agg parts)) {i : Nat} {u : TypeId} {d : DataW H} (ht : (fs.toList.map (·.type))[i]? = some u) (hd : parts[i]? = some d) : Fit9 u d := by
  unfold Fit9 at h
  unfold DataW.weights at h
  rw [hu] at h
  exact fun n hn => h n (DataW.weights_mem_each ht hd n hn)
theorem Fit9.top {H : Type} {ts : List TypeId} {ds : List (DataW H)} {j : Nat} {t : TypeId} {d : DataW H} (h : ((DataW.weightsEach Try.prog ts ds).all fun x => decide (x ≤ reachBytes)) = true) (ht : ts[j]? = some t) (hd : ds[j]? = some d) : Fit9 t d := fun n hn => by
  have := List.all_eq_true.1 h n (DataW.weights_mem_each ht hd n hn)
  simpa using this

section
variable {H : Type} {enc : TypeId × Value → H} {W : World} {base : Nat} {spare : Nat → Bool} {held : Bool}
theorem bsl_of_trod {cs : List Value} {fuel : Nat} {y : DataW H × List MemPlace} (hf : DataW.trod enc Try.prog W base spare held fuel 40 cs = some y) : ∃ v l, cs = [v] ∧ BSl W v l ∧ (Fit9 40 y.1 → l.length ≤ reachBytes) := by
  rcases open_ints Try.underlying40 Try.underlying5 (by kernel_rfl) hf with ⟨hcs, _⟩ | ⟨x, len, cap, zs, hcs, _, hl, hm, hz, hx, hcell, hwz⟩
  · exact ⟨_, [], hcs, bsl_nil _, fun _ => Nat.zero_le _⟩
  · have hge : len ≤ zs.length := by rw [hz]; split <;> omega
    have hlen : (zs.take len).length = len := by simp; omega
    have hget : ∀ j, j < len → (zs.take len).getD j 0 = zs.getD j 0 := fun j hj => by
      simp [List.getD_eq_getElem?_getD, hj]
    have hbyt : Byt (zs.take len) := byt_of_mem fun x hx => bounds_u8 (hwz x (List.mem_of_mem_take hx))
    refine ⟨_, zs.take len, hcs, ⟨hbyt, .inr ⟨x, cap, by rw [hlen], by omega, fun j hj => ?_⟩⟩, fun hfit => ?_⟩
    rotate_left
    · rw [hx] at hfit
      have h1 := (Fit9.slice Try.underlying40 hfit).1
      have hby : Try.prog.bytesOf 5 = 1 := by kernel_rfl
      rw [hby] at h1
      simp only [lits, List.length_map, Nat.mul_one] at h1
      omega
    rw [hlen] at hj
    have h0 := hcell j (by omega)
    obtain ⟨b, off, spot⟩ := x
    have hspot : spot = none := by
      have h00 := hcell 0 (by omega)
      simpa [Addr.add] using World.cell?_spot h00
    subst hspot
    rw [Addr.add_lit] at h0
    exact ⟨by have := block_lt_of_cell h0; exact this, rfl, by rw [hget j hj]; exact h0⟩
theorem isl_of_trod (S : TypeId) (hS : Try.prog.underlying S = some (.slice 3)) {cs : List Value} {fuel : Nat} {y : DataW H × List MemPlace} (hf : DataW.trod enc Try.prog W base spare held fuel S cs = some y) : ∃ v l, cs = [v] ∧ ISl W v l ∧ l.length ≤ maxLen := by
  rcases open_ints hS Try.underlying3 (by kernel_rfl) hf with ⟨hcs, _⟩ | ⟨x, len, cap, zs, hcs, _, hl, hm, hz, hx, hcell, hwz⟩
  · exact ⟨_, [], hcs, isl_nil _, Nat.zero_le _⟩
  · have hge : len ≤ zs.length := by rw [hz]; split <;> omega
    have hlen : (zs.take len).length = len := by simp; omega
    have hget : ∀ j, j < len → (zs.take len).getD j 0 = zs.getD j 0 := fun j hj => by
      simp [List.getD_eq_getElem?_getD, hj]
    refine ⟨_, zs.take len, hcs, .inr ⟨x, cap, by rw [hlen], fun j hj => ?_⟩, by omega⟩
    rw [hlen] at hj
    have h0 := hcell j (by omega)
    obtain ⟨b, off, spot⟩ := x
    have hspot : spot = none := by
      have h00 := hcell 0 (by omega)
      simpa [Addr.add] using World.cell?_spot h00
    subst hspot
    rw [Addr.add_lit] at h0
    exact ⟨by have := block_lt_of_cell h0; exact this, rfl, by rw [hget j hj]; exact h0⟩
theorem bytesCells9 : Try.prog.cellsOf 40 = 1 := by kernel_rfl
theorem bbsl_of_trod (S : TypeId) (hS : Try.prog.underlying S = some (.slice 40)) {cs : List Value} {fuel : Nat} {y : DataW H × List MemPlace} (hf : DataW.trod enc Try.prog W base spare held fuel S cs = some y) :
    ∃ v L, cs = [v] ∧ BBSl W v L ∧ (Fit9 S y.1 → ∀ j, (L.getD j []).length ≤ reachBytes) := by
  rcases Go.Deep.open_slice1 hS bytesCells9 hf with ⟨hcs, _⟩ | ⟨a, len, cap, m, n, V, D, Pl, hcs, _, hl, hm, hmm, hy, hi⟩
  · exact ⟨_, [], hcs, bbsl_nil _, fun _ j => by simp⟩
  · have hlm : len ≤ m := by rw [hmm]; split <;> omega
    have hex : ∀ i, i < len → ∃ l, W.cell? (a.add i) = some (V i) ∧ BSl W (V i) l ∧ (Fit9 40 (D i) → l.length ≤ reachBytes) := fun i hi2 => by
      obtain ⟨h1, h2⟩ := hi i (by omega)
      obtain ⟨v, l, hv, hb, hln⟩ := bsl_of_trod h2
      obtain rfl : V i = v := by simpa using hv
      exact ⟨l, h1, hb, hln⟩
    obtain ⟨f, hfn⟩ := Go.Deep.choose_lt hex
    have hget : ∀ i, i < len → ((List.range len).map f).getD i [] = f i := fun i hi2 => by
      simp [List.getD_eq_getElem?_getD, hi2]
    refine ⟨_, (List.range len).map f, hcs, .inr ⟨a, cap, by simp, by simpa using hl, fun i hi2 => ?_⟩, fun hfit j => ?_⟩
    · have hi2 : i < len := by simpa using hi2
      obtain ⟨c0, hb, _⟩ := hfn i hi2
      obtain ⟨b, off, spot⟩ := a
      have hsp : spot = none := by
        obtain ⟨z0, _⟩ := hfn 0 (by omega)
        simpa [Addr.add] using World.cell?_spot z0
      subst hsp
      rw [Addr.add_lit] at c0
      rw [hget i hi2]
      exact ⟨by have := block_lt_of_cell c0; exact this, rfl, V i, c0, hb⟩
    · by_cases hj : j < len
      · rw [hget j hj]
        rw [hy] at hfit
        exact (hfn j hj).2.2 ((Fit9.slice hS hfit).2 j (D j) (by simp [hj]))
      · rw [List.getD_eq_getElem?_getD, List.getElem?_eq_none (by simp; omega)]; exact Nat.zero_le _
end
end Go.Proofs.Ytmjndpmpeidhaaa
