/- Layer 3's law: DiskKeeps. -/
import Derived.Test.YtibabjhehlmchaaLawTwice
import Derived.Test.YtibabjhehlmchaaLawDNil
import Derived.Test.YtibabjhehlmchaaOpenOp3
namespace Go.Proofs.Ytibabjhehlmchaa
open Go.RowKit
set_option linter.unusedVariables false

/-- A script that reads as S. -/
def OpsA (w : World) (v : Value) (S : List OpV) : Prop :=
  ((∃ ao cap, v = .slice ao 0 cap) ∧ S = []) ∨ ∃ b off cap, v = .slice (some ⟨b, off, none⟩) S.length cap ∧ ∀ i (hi : i < S.length), b < w.heap.size ∧
    ∃ vb vk, w.cell? ⟨b, off + i * 5, none⟩ = some (.int .i64 S[i].kind) ∧ w.cell? ⟨b, off + i * 5 + 1, none⟩ = some (.int .i64 S[i].n) ∧ w.cell? ⟨b, off + i * 5 + 2, none⟩ = some (.int .u8 S[i].byte) ∧
      w.cell? ⟨b, off + i * 5 + 3, none⟩ = some vb ∧ w.cell? ⟨b, off + i * 5 + 4, none⟩ = some vk ∧ (0 ≤ S[i].byte ∧ S[i].byte ≤ 255) ∧ (-9223372036854775808 ≤ S[i].n ∧ S[i].n ≤ 9223372036854775807) ∧ BSl w vb S[i].bytes ∧ KSl w vk S[i].keep
theorem OpsA.below {w w' : World} {v : Value} {S : List OpV} (h : OpsA w v S) (hb : Below w.heap.size w w') : OpsA w' v S := by
  rcases h with h | ⟨b, off, cap, hv, hc⟩
  · exact .inl h
  · refine .inr ⟨b, off, cap, hv, fun i hi => ?_⟩
    obtain ⟨h0, vb, vk, h1, h2, h3, h4, h5, h6, h7, h8, h9⟩ := hc i hi
    have key : ∀ o, w'.cell? ⟨b, o, none⟩ = w.cell? ⟨b, o, none⟩ := fun o => hb.cell (p := ⟨b, o, none⟩) h0
    exact ⟨Nat.lt_of_lt_of_le h0 hb.size, vb, vk, by rw [key, h1], by rw [key, h2], by rw [key, h3], by rw [key, h4], by rw [key, h5], h6, h7, h8.below hb, h9.below hb⟩
theorem OpsA.shape {w : World} {v : Value} {S : List OpV} (h : OpsA w v S) : ∃ ao cap, v = .slice ao S.length cap := by
  rcases h with ⟨⟨ao, cap, hv⟩, h0⟩ | ⟨b, off, cap, hv, _⟩
  · exact ⟨ao, cap, by rw [hv, h0]; rfl⟩
  · exact ⟨_, cap, hv⟩
theorem OpsA.opsL {w : World} {v : Value} {S : List OpV} (h : OpsA w v S) : OpsL w v S.length := by
  rcases h with ⟨hv, h0⟩ | ⟨b, off, cap, hv, hc⟩
  · exact .inl ⟨hv, by rw [h0]; rfl⟩
  · refine .inr ⟨b, off, cap, hv, fun i hi => ?_⟩
    obtain ⟨h0, vb, vk, h1, h2, h3, h4, h5, h6, h7, h8, h9⟩ := hc i hi
    obtain ⟨ab, cb, hb, _⟩ := h8.shape
    obtain ⟨ak, ck, hk⟩ := h9.shape
    exact ⟨h0, ⟨ab, _, cb, by rw [h4, hb]⟩, ⟨ak, _, ck, by rw [h5, hk]⟩⟩

/-- A disk whose block k is b, and will be behind any crash. -/
def Kp (w : World) (B : Nat) (p : Value) (k : Nat) (b : List Int) (F V : List (List Int)) (U : List (Nat × List Int)) : Prop :=
  Dsk w B p F V U ∧ V.length = 10 ∧ V.getD k [] = b ∧ ∀ x ∈ U, x.1 ≠ k
theorem Kp.below {w w' : World} {B : Nat} {p : Value} {k : Nat} {b : List Int} {F V : List (List Int)} {U : List (Nat × List Int)} (h : Kp w B p k b F V U) (hb : Below w.heap.size w w') : Kp w' B p k b F V U := ⟨h.1.below hb, h.2⟩
theorem stV_other (U : List (Nat × List Int)) (F1 V : List (List Int)) (k : Nat) (h : ∀ x ∈ U, x.1 ≠ k) : ∀ m, m ≤ U.length → (stV U F1 V m).getD k [] = V.getD k []
  | 0, _ => rfl
  | m + 1, hm => by
    have ih := stV_other U F1 V k h m (by omega)
    have hg : U.getD m (0, []) = U[m] := by rw [List.getD_eq_getElem?_getD, List.getElem?_eq_getElem (by omega)]; rfl
    unfold stV
    rw [hg, ← ih]
    simp only [List.getD_eq_getElem?_getD]
    rw [List.getElem?_set_ne (h _ (List.getElem_mem _))]

theorem dWrite_kp {w : World} {B : Nat} {p : Value} {k : Nat} {b : List Int} {F V : List (List Int)} {U : List (Nat × List Int)} (h : Kp w B p k b F V U) (hU : U.length ≤ 1000000) (n : Int) (hn : n ≠ k) {v : Value} {l : List Int} (hv : BSl w v l) :
    Calls Try.prog 9 #[p, .int .i64 n, v] w fun e w' => ∃ r V' U', e = .returned (.int .i64 r) ∧ Kp w' B p k b F V' U' ∧ U'.length ≤ U.length + 1 ∧ Below B w w' := by
  by_cases hin : (0 ≤ n ∧ n < V.length) ∧ l.length = 256
  · obtain ⟨m, rfl⟩ : ∃ m : Nat, n = m := ⟨n.toNat, by omega⟩
    refine (dWrite_at h.1 m (by omega) hv hin.2 hU).mono fun e w' ⟨he, hd, hb⟩ => ⟨0, _, _, he, ⟨hd, by rw [List.length_set]; exact h.2.1, ?_, fun x hx => ?_⟩, by simp, hb⟩
    · rw [← h.2.2.1]
      simp only [List.getD_eq_getElem?_getD]
      rw [List.getElem?_set_ne (by omega)]
    · rcases List.mem_append.1 hx with hx | hx
      · exact h.2.2.2 x hx
      · obtain rfl := List.mem_singleton.1 hx
        show m ≠ k
        omega
  · refine (dWrite_no h.1 n hv hin).mono fun e w' ⟨he, hw⟩ => ⟨1, V, U, he, hw ▸ h, by omega, hw ▸ Below.refl _ _⟩

theorem kp_start {w : World} {B : Nat} {p : Value} {k : Nat} {b : List Int} {F V : List (List Int)} (h : Dsk w B p (stF (fun _ => true) ([] ++ [(k, b)]) F ([] ++ [(k, b)] : List (Nat × List Int)).length) (stV ([] ++ [(k, b)]) (stF (fun _ => true) ([] ++ [(k, b)]) F ([] ++ [(k, b)] : List (Nat × List Int)).length) (V.set k b) ([] ++ [(k, b)] : List (Nat × List Int)).length) [])
    (hk : k < 10) (hF : F.length = 10) (hV : V.length = 10) : ∃ F V, Kp w B p k b F V [] := by
  have e1 : stF (fun _ => true) ([] ++ [(k, b)]) F ([] ++ [(k, b)] : List (Nat × List Int)).length = F.set k b := rfl
  rw [e1] at h
  have e2 : stV ([] ++ [(k, b)]) (F.set k b) (V.set k b) ([] ++ [(k, b)] : List (Nat × List Int)).length = (V.set k b).set k ((F.set k b).getD k []) := rfl
  rw [e2] at h
  refine ⟨_, _, h, by simp [hV], by simp [List.getD_eq_getElem?_getD, hF, hV, hk], fun x hx => by simp at hx⟩
theorem kp_end {w : World} {B : Nat} {p : Value} {k : Nat} {b : List Int} {F V : List (List Int)} {U : List (Nat × List Int)} (h : Kp w B p k b F V U) (hk : k < 10) (F1 : List (List Int)) : ∃ hlt : k < (stV U F1 V U.length).length, (stV U F1 V U.length)[k] = b := by
  have hlt : k < (stV U F1 V U.length).length := by rw [stV_length, h.2.1]; exact hk
  refine ⟨hlt, ?_⟩
  have hg : (stV U F1 V U.length)[k] = (stV U F1 V U.length).getD k [] := by rw [List.getD_eq_getElem?_getD, List.getElem?_eq_getElem hlt]; rfl
  rw [hg, stV_other U F1 V k h.2.2.2 _ (Nat.le_refl _), h.2.2.1]
end Go.Proofs.Ytibabjhehlmchaa
