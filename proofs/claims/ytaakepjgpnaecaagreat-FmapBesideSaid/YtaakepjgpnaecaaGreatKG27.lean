/- What the law rests on: part 27. -/
import Derived.Test.YtaakepjgpnaecaaGreatKG26
set_option linter.unusedVariables false
namespace Go.Proofs.YtaakepjgpnaecaaGreat
set_option maxRecDepth 100000
open Go.RowKit BM
structure Fsd (w0 w : World) (P : Nat → Prop) (d p : Value) (X : XSt) (S : List Int) (N : List (List Int)) (O : List (Int × Int)) (kk : Nat) (F : Nat → List Int) (bf : Nat) : Prop where
  inv : SInv w P d p X
  wi : X.wi = false
  fu : X.ds.fu = false
  pl : Pl noEx X.is S N O kk F
  st : Stil S kk
  fs : FsAt w bf p
  nb : ¬ P bf
  bN : w0.heap.size ≤ bf
  pN : ∀ x, P x → w0.heap.size ≤ x
  be : Below w0.heap.size w0 w
structure Fsm (w0 w : World) (P : Nat → Prop) (d p : Value) (X : XSt) (S : List Int) (N : List (List Int)) (O : List (Int × Int)) (kk : Nat) (F : Nat → List Int) (bf : Nat) : Prop where
  inv : SInv w P d p X
  wi : X.wi = true
  fu : X.ds.fu = false
  pl : Pl noEx X.is S N O kk F
  st : Stil S kk
  fs : FsAt w bf p
  nb : ¬ P bf
  bN : w0.heap.size ≤ bf
  pN : ∀ x, P x → w0.heap.size ≤ x
  sz : w0.heap.size ≤ w.heap.size
  be : Below w0.heap.size w0 w
section
variable {w0 w : World} {P : Nat → Prop} {d p : Value} {X : XSt} {S : List Int} {N : List (List Int)} {O : List (Int × Int)} {kk : Nat} {F : Nat → List Int} {bf : Nat}
theorem Fsd.begin (h : Fsd w0 w P d p X S N O kk F bf) : Calls Tryz.prog 14 #[p] w fun e w' => e = .returned (.int .i64 0) ∧ ∃ P', Fsm w0 w' P' d p (callX X) S N O kk F bf ∧ Fmd w' P' d p (callX X) S N O kk F bf ∧ Chg P P' w w' := by
  refine (landed.begin h.inv).mono fun e w' ⟨he, P', hi, hc⟩ => ?_
  have e1 : xBegin X = (0, callX X) := by unfold xBegin; rw [if_neg (by rw [h.wi]; decide)]; rfl
  rw [e1] at he hi
  obtain ⟨hf, hn⟩ := h.fs.chg hc h.nb
  obtain ⟨hb, hp⟩ := chg_base h.be h.pN hc
  exact ⟨he, P', ⟨hi, rfl, h.fu, h.pl, h.st, hf, hn, h.bN, hp, hb.size, hb⟩, ⟨hi, rfl, h.pl, h.st, hf, hn⟩, hc⟩
theorem Fsm.next (h : Fsm w0 w P d p X S N O kk F bf) {w' : World} {P' : Nat → Prop} {X' : XSt} (hi : SInv w' P' d p X') (hw : X'.wi = true) (ho : Onw X X') (hc : Chg P P' w w') : Fsm w0 w' P' d p X' S N O kk F bf := by
  obtain ⟨hf, hn⟩ := h.fs.chg hc h.nb
  obtain ⟨hb, hp⟩ := chg_base h.be h.pN hc
  exact ⟨hi, hw, by rw [ho.2]; exact h.fu, by rw [ho.1]; exact h.pl, h.st, hf, hn, h.bN, hp, hb.size, hb⟩
theorem Fsm.keep (h : Fsm w0 w P d p X S N O kk F bf) {N2 : List (List Int)} {O2 : List (Int × Int)} {F2 : Nat → List Int} (hm : Fmd w P d p X S N2 O2 kk F2 bf) :
    Calls Tryz.prog 19 #[p, .bool true] w fun e w' => e = .returned (.int .i64 0) ∧ ∃ P' X', Fsd w0 w' P' d p X' S N2 O2 kk F2 bf ∧ X'.is = X.call ∧ Chg P P' w w' := by
  refine (landed.endKeep h.inv h.wi).mono fun e w' he => ?_
  rcases he with ⟨B, dt, ds', _, hfu, he, P', hi, hc⟩ | ⟨hf, _⟩
  · obtain ⟨hf, hn⟩ := h.fs.chg hc h.nb
    obtain ⟨hb, hp⟩ := chg_base h.be h.pN hc
    exact ⟨he, P', _, ⟨hi, rfl, by show ds'.fu = false; rw [hfu]; exact h.fu, hm.pl, h.st, hf, hn, h.bN, hp, hb⟩, rfl, hc⟩
  · rw [h.fu] at hf; cases hf
theorem Fsd.rd (h : Fsd w0 w P d p X S N O kk F bf) : Frd w P d p X S N O kk F bf := by
  have hc : X.cur = X.is := by unfold XSt.cur; rw [h.wi]; rfl
  exact ⟨h.inv, h.fs, by rw [hc]; exact h.pl.tab, by rw [hc]; exact h.pl.fi, h.pl.ok.k12, by rw [hc]; exact h.pl.has.len⟩
theorem Pl.make (h : Pl noEx X.call S N O kk F) {n : Nat} (h1 : 1 ≤ n) (h48 : n < 48) (hF : F n = List.replicate 128 0) {k : Int} (hk : 1 ≤ k ∧ k ≤ 3) : Pl noEx (putI X S N n (kindI k)).call S (N.set n (kindI k)) O kk F := by
  have hz : ∀ i, i < 139 → locX (kindI k) (List.replicate 128 0) i = 0 := fun i hi => by
    unfold locX num
    split
    · next h10 =>
      have : ∀ j, j < 10 → (kindI k).getD (3 + j) 0 = 0 := fun j hj => by
        have hj2 : j = 0 ∨ j = 1 ∨ j = 2 ∨ j = 3 ∨ j = 4 ∨ j = 5 ∨ j = 6 ∨ j = 7 ∨ j = 8 ∨ j = 9 := by omega
        rcases hj2 with rfl | rfl | rfl | rfl | rfl | rfl | rfl | rfl | rfl | rfl <;> rfl
      exact this i h10
    · split
      · rfl
      · rw [List.getD_eq_getElem?_getD, List.getElem?_replicate]; split <;> rfl
  exact (h.node h1 h48 (y := kindI k) rfl (kindI_frm hk) (fun a b e => e.elim) (fun _ => hF) (fun e => absurd rfl e) (fun i hi hne => by rw [hF] at hne; exact absurd (hz i hi) hne)).1
end
def N14 : Nat → List (List Int)
  | 0 => newN
  | c + 1 => (N14 c).set (2 + c) (kindI 1)
def F14 : Nat → List Int := fun _ => List.replicate 128 0
theorem n14_len : ∀ c, (N14 c).length = 48
  | 0 => rfl
  | c + 1 => by rw [N14, List.length_set]; exact n14_len c
theorem n14_get : ∀ c m, c ≤ 4 → (N14 c).getD m [] = if 2 ≤ m ∧ m < 2 + c then kindI 1 else newN.getD m []
  | 0, m, _ => by rw [if_neg (by omega)]; rfl
  | c + 1, m, h => by
    rw [N14, getD_n (by rw [n14_len]; omega), n14_get c m (by omega)]
    by_cases e : m = 2 + c
    · rw [if_pos e, if_pos (by omega)]
    · rw [if_neg e]
      by_cases c2 : 2 ≤ m ∧ m < 2 + c
      · rw [if_pos c2, if_pos (by omega)]
      · rw [if_neg c2, if_neg (by omega)]
theorem newN_kind : ∀ m, m < 48 → (newN.getD m []).getD 0 0 = if m = 1 then 2 else 0 := by decide
theorem newN_loc : ∀ m, m < 48 → ∀ j, j < 11 → (newN.getD m []).getD (3 + j) 0 = 0 := by decide
theorem n14_kind {c m : Nat} (hc : c ≤ 4) (hm : m < 48) : kindN (N14 c) m = if m = 1 then 2 else if 2 ≤ m ∧ m < 2 + c then 1 else 0 := by
  unfold kindN
  rw [n14_get c m hc]
  by_cases h : 2 ≤ m ∧ m < 2 + c
  · rw [if_pos h, if_neg (by omega), if_pos h]; rfl
  · rw [if_neg h, newN_kind m hm, if_neg h]
theorem n14_free {c : Nat} (hc : c < 4) : FreeAt (N14 c) (2 + c) := by
  refine ⟨by omega, by omega, by rw [n14_kind (by omega) (by omega), if_neg (by omega), if_neg (by omega)], fun m h1 h2 => ?_⟩
  rw [n14_kind (by omega) (by omega)]
  split
  · decide
  · rw [if_pos (by omega)]; decide
theorem new_fils {kk : Nat} (h1 : 1 ≤ kk) (G : List (List Int)) : Fils noEx G (newS kk) newN (newO kk) kk F14 := by
  have hz : ∀ n i, n < 48 → i < 139 → locX (newN.getD n []) (F14 n) i = 0 := fun n i hn hi => by
    unfold locX num
    split
    · next h10 => exact newN_loc n hn i (by omega)
    · split
      · exact newN_loc n hn 10 (by decide)
      · show (List.replicate 128 (0 : Int)).getD (i - 10) 0 = 0
        rw [List.getD_eq_getElem?_getD, List.getElem?_replicate]; split <;> rfl
  refine ⟨fun n => ⟨rfl, (by decide : locS (List.replicate 128 0) = true)⟩, fun _ _ _ _ => rfl, fun n _ hn hm => absurd (newN_loc n hn 10 (by decide)) hm, fun n i _ hn hi _ hl => absurd (hz n i hn hi) hl, fun t ht => ?_⟩
  have e : tabAt (newS kk) t = 43 + t := by
    have hi2 : t = 0 ∨ t = 1 ∨ t = 2 ∨ t = 3 ∨ t = 4 ∨ t = 5 := by omega
    rcases hi2 with rfl | rfl | rfl | rfl | rfl | rfl <;> rfl
  rw [e]
  unfold newO
  rw [tabN_getD _ _ _ (by omega)]
  unfold tabJ
  rw [if_neg (by rw [(fix_tab (j := 43 + t)).2 (by omega) (by omega)]; decide), if_pos (by omega)]
  exact Prod.ext rfl (by simp only; omega)
theorem new_stil {kk : Nat} (h1 : 1 ≤ kk) (h2 : kk ≤ 12) : Stil (newS kk) kk := by
  refine ⟨fun i => ?_, rfl, ?_⟩
  · by_cases hi : i < 12
    · have hi2 : i = 0 ∨ i = 1 ∨ i = 2 ∨ i = 3 ∨ i = 4 ∨ i = 5 ∨ i = 6 ∨ i = 7 ∨ i = 8 ∨ i = 9 ∨ i = 10 ∨ i = 11 := by omega
      have e0 : num (newS kk) 0 = 64 * (kk : Int) := rfl
      rcases hi2 with rfl | rfl | rfl | rfl | rfl | rfl | rfl | rfl | rfl | rfl | rfl | rfl
      · rw [e0]; omega
      all_goals first
        | exact (by decide : (0 : Int) ≤ 9223372036854775807)
        | exact (by decide : (43 : Int) ≤ 9223372036854775807)
        | exact (by decide : (44 : Int) ≤ 9223372036854775807)
        | exact (by decide : (45 : Int) ≤ 9223372036854775807)
        | exact (by decide : (46 : Int) ≤ 9223372036854775807)
        | exact (by decide : (47 : Int) ≤ 9223372036854775807)
        | exact (by decide : (48 : Int) ≤ 9223372036854775807)
    · unfold num
      rw [List.getD_eq_getElem?_getD, List.getElem?_eq_none (by show 12 ≤ i; omega)]; decide
  · unfold limS
    rw [if_pos (newS_frm h1 h2), if_neg (by show ¬ (0 : Int) = 2; decide)]; rfl
section
variable {kk : Nat}
set_option maxHeartbeats 1000000 in
theorem made_of (h1 : 1 ≤ kk) (h2 : kk ≤ 12) (w0 : World) {w : World} (hb : Below w0.heap.size w0 w) :
    Calls Tryz.prog 7 #[.int .i64 (64 * (kk : Int))] w fun e w' => ∃ bf b P d X, e = .returned (.pointer (some ⟨bf, 0, none⟩)) ∧ Fsd w0 w' P d (.pointer (some ⟨b, 0, none⟩)) X (newS kk) (N14 4) (newO kk) kk F14 bf := by
  have KS := Lib.hid (start13 h1 h2 w0 hb)
  have HB : Hid (∀ (V : World) (P : Nat → Prop) (d : Value) (b bf : Nat) (X : XSt), Tsd w0 V P d (.pointer (some ⟨b, 0, none⟩)) X (newS kk) newN (newO kk) kk bf → Fsd w0 V P d (.pointer (some ⟨b, 0, none⟩)) X (newS kk) newN (newO kk) kk F14 bf) := Lib.hid fun V P d b bf X h =>
    ⟨h.inv, h.wi, h.fu, ⟨h.has, h.ok, h.tab, new_fils h1 _⟩, new_stil h1 h2, h.fs, h.nb, h.bN, h.pN, h.be⟩
  have HM : Hid (∀ (V : World) (P : Nat → Prop) (d : Value) (b bf c : Nat) (X : XSt), c < 4 → Fsm w0 V P d (.pointer (some ⟨b, 0, none⟩)) X (newS kk) newN (newO kk) kk F14 bf → Fmd V P d (.pointer (some ⟨b, 0, none⟩)) X (newS kk) (N14 c) (newO kk) kk F14 bf → X.put.length ≤ c → Calls Tryz.prog 23 #[.pointer (some ⟨bf, 0, none⟩), .int .i64 1] V fun e w' => e = .returned (.tuple #[.int .i64 ((2 + c : Nat) : Int), .int .i64 0]) ∧
      Hid (∃ P' X', Fsm w0 w' P' d (.pointer (some ⟨b, 0, none⟩)) X' (newS kk) newN (newO kk) kk F14 bf ∧ Fmd w' P' d (.pointer (some ⟨b, 0, none⟩)) X' (newS kk) (N14 (c + 1)) (newO kk) kk F14 bf ∧ X'.put.length ≤ c + 1)) := Lib.hid fun V P d b bf c X hc hs hm hp => by
    refine (fsMake_yes hm.inv hm.wi (by omega) hm.fs hm.pl.tab (n14_free hc) (k := 1) (by decide) (Below.refl _ _)).mono ?_
    rintro e w' ⟨he, P', hi, hg⟩
    obtain ⟨hfs, hnb⟩ := hm.fs.chg hg hm.nb
    exact ⟨he, P', _, hs.next hi hm.wi ⟨rfl, rfl⟩ hg, ⟨hi, hm.wi, hm.pl.make (by omega) (by omega) rfl (by decide), hm.st, hfs, hnb⟩, by have := addS_le X.put ((tabAt (newS kk) ((2 + c) / 8) : Nat) : Int); show (addS X.put _).length ≤ c + 1; omega⟩
  clear h1 h2
  go_enter Tryz.func7, Tryz.ntmps7
  go_wp2_with (first
    | (go_at_call 22; refine KS.out.mono ?_; rintro e w1 ⟨b, rfl, hb1, KN⟩)
    | (go_at_call 21; refine KN.mono ?_; rintro e w2 ⟨bf, P2, d2, X2, rfl, hsd, _⟩; have hsd2 := HB.out _ _ _ _ _ _ hsd; have c2 := hsd2.fs.cell)
    | (go_at_call 14; refine hsd2.begin.mono ?_; rintro e w3 ⟨rfl, P3, hs3, hm3, _⟩))
  have H0 : Hid (∃ P X, Fsm w0 w3 P d2 (.pointer (some ⟨b, 0, none⟩)) X (newS kk) newN (newO kk) kk F14 bf ∧ Fmd w3 P d2 (.pointer (some ⟨b, 0, none⟩)) X (newS kk) (N14 0) (newO kk) kk F14 bf ∧ X.put.length ≤ 0) := Lib.hid ⟨P3, _, hs3, hm3, Nat.le_refl _⟩
  clear hsd hsd2 c2 hs3 hm3 KN hb1
  go_loopw [20] (fun i wr => ∃ c : Nat, c ≤ 4 ∧ i = .int .i64 c ∧ Hid (∃ P X, Fsm w0 wr P d2 (.pointer (some ⟨b, 0, none⟩)) X (newS kk) newN (newO kk) kk F14 bf ∧ Fmd wr P d2 (.pointer (some ⟨b, 0, none⟩)) X (newS kk) (N14 c) (newO kk) kk F14 bf ∧ X.put.length ≤ c)) (fun i _ => 4 - (intOf i).toNat)
  case atStart => exact ⟨0, by omega, rfl, H0⟩
  case round =>
    obtain ⟨c, hc, rfl, HS⟩ := hrel
    clear H0
    by_cases hlt : c < 4
    · obtain ⟨P, X, hs, hm, hp⟩ := HS.out
      have KM := Lib.hid (HM.out _ _ _ _ _ _ _ hlt hs hm hp)
      have ec : (c : Int) < 4 := by omega
      clear hs hm hp HS
      go_wp2_with (go_at_call 23; refine KM.out.mono ?_; rintro e w4 ⟨rfl, HS4⟩)
      go_roundw
      case rel => exact ⟨c + 1, by omega, by go_num, HS4⟩
      case measure => simp [intOf]; omega
    · obtain rfl : c = 4 := by omega
      obtain ⟨P, X, hs, hm, hp⟩ := HS.out
      have cf := hs.fs.cell
      have KE := Lib.hid (hs.keep hm)
      clear hs hm hp HS
      go_wp2_with (go_at_call 19; refine KE.out.mono ?_; rintro e w5 ⟨rfl, P5, X5, hf5, _, _⟩)
      go_ret
      exact ⟨bf, b, P5, d2, X5, rfl, hf5⟩
end
theorem kindI_loc (k : Int) {i : Nat} (hi : i < 139) : locX (kindI k) (List.replicate 128 0) i = 0 := by
  unfold locX num
  split
  · next h10 =>
    have : ∀ j, j < 10 → (kindI k).getD (3 + j) 0 = 0 := fun j hj => by
      have hj2 : j = 0 ∨ j = 1 ∨ j = 2 ∨ j = 3 ∨ j = 4 ∨ j = 5 ∨ j = 6 ∨ j = 7 ∨ j = 8 ∨ j = 9 := by omega
      rcases hj2 with rfl | rfl | rfl | rfl | rfl | rfl | rfl | rfl | rfl | rfl <;> rfl
    exact this i h10
  · split
    · rfl
    · rw [List.getD_eq_getElem?_getD, List.getElem?_replicate]; split <;> rfl
theorem n14_loc {c m : Nat} (hc : c ≤ 4) (hm : m < 48) {i : Nat} (hi : i < 139) : locX ((N14 c).getD m []) (F14 m) i = 0 := by
  rw [n14_get c m hc]
  split
  · exact kindI_loc 1 hi
  · unfold locX num
    split
    · next h10 => exact newN_loc m hm i (by omega)
    · split
      · exact newN_loc m hm 10 (by decide)
      · show (List.replicate 128 (0 : Int)).getD (i - 10) 0 = 0
        rw [List.getD_eq_getElem?_getD, List.getElem?_replicate]; split <;> rfl
def baseQ (S : List Int) (kk n : Nat) (mp : Int) : List Int := (List.range kk).flatMap (fun g => [(dscN g : Int), (dscN g : Int) + 1]) ++ [((tabAt S (n / 8) : Nat) : Int), mp]
theorem baseQ_len (S : List Int) (kk n : Nat) (mp : Int) : (baseQ S kk n mp).length = 2 * kk + 2 := by
  unfold baseQ
  rw [List.length_append]
  have : ∀ l : List Nat, (l.flatMap fun g => [(dscN g : Int), (dscN g : Int) + 1]).length = 2 * l.length := fun l => by
    induction l with
    | nil => rfl
    | cons a l ih => rw [List.flatMap_cons, List.length_append, ih]; simp; omega
  rw [this, List.length_range]; rfl
theorem baseQ_ok (S : List Int) (kk n : Nat) (mp : Int) : Base (baseQ S kk n mp) S kk n mp := by
  refine ⟨fun g hg => ?_, List.mem_append_right _ (by simp), fun _ => List.mem_append_right _ (by simp)⟩
  have : ∀ a ∈ [(dscN g : Int), (dscN g : Int) + 1], a ∈ baseQ S kk n mp := fun a ha => List.mem_append_left _ (List.mem_flatMap.2 ⟨g, List.mem_range.2 hg, ha⟩)
  exact ⟨this _ (by simp), this _ (by simp)⟩
theorem put_none (X : XSt) (Q : List Int) : PutS (callX X) Q := ⟨List.nodup_nil, fun a ha => absurd ha List.not_mem_nil⟩
theorem awake14_any (w : World) : Calls Tryz.prog 6 #[] w fun e w' => e = .returned (.bool true) ∧ Below w.heap.size w w' := by
  have KM := Lib.hid (made_of (kk := 1) (by decide) (by decide) w (Below.refl _ w))
  rw [show (64 * ((1 : Nat) : Int)) = 64 from rfl] at KM
  have KF : Hid (∀ (V : World) (P : Nat → Prop) (d p : Value) (X : XSt) (bf : Nat), Fsm w V P d p (callX X) (newS 1) (N14 4) (newO 1) 1 F14 bf → Fmd V P d p (callX X) (newS 1) (N14 4) (newO 1) 1 F14 bf → Calls Tryz.prog 15 #[.pointer (some ⟨bf, 0, none⟩), .int .i64 2, .int .i64 0] V fun e w' => ∃ v : Int, e = .returned (.tuple #[.int .i64 v, .int .i64 0]) ∧ 0 < v ∧ Below w.heap.size w w') := Lib.hid fun V P d p X bf hs hm => by
    have := fmMap_new (n := 2) (i := 0) (Q := baseQ (newS 1) 1 2 (num ((N14 4).getD 2 []) 13)) hm (by decide) (by decide) (by rw [n14_kind (by decide) (by decide)]; decide) (by decide) (n14_loc (by decide) (by decide) (by decide)) (put_none _ _) (by rw [baseQ_len]; decide) (baseQ_ok _ _ _ _) (by
      rw [cnt_new 1 (by decide) (by decide)]
      unfold needM
      rw [if_neg (by omega)]; decide)
    refine this.mono ?_
    rintro e w' ⟨v, P', X', N', O', F', he, hm', hr, hg⟩
    exact ⟨v, he, hr.v0, (hs.next hm'.inv hm'.wi hr.on hg).be⟩
  go_enter Tryz.func6, Tryz.ntmps6
  go_wp2_with (first
    | (go_at_call 7; refine KM.out.mono ?_; rintro e w1 ⟨bf, b, P, d, X, rfl, hf⟩; have c0 := hf.fs.cell; have KB := Lib.hid hf.begin)
    | (go_at_call 14; refine KB.out.mono ?_; rintro e w2 ⟨rfl, P2, hs2, hm2, _⟩)
    | (go_at_call 15; refine (KF.out _ _ _ _ _ _ hs2 hm2).mono ?_; rintro e w3 ⟨v, rfl, hv, hb3⟩))
  go_ret
  exact ⟨by simp [hv], hb3⟩
def OwBs (kk : Nat) : Nat → List (Int × Int)
  | 0 => newO kk
  | k + 1 => (OwBs kk k).set (49 + k) (2, (k : Int))
theorem obs_len (kk : Nat) : ∀ k, (OwBs kk k).length = 64 * kk
  | 0 => tabN_length _ _
  | k + 1 => by rw [OwBs, List.length_set]; exact obs_len kk k
theorem new_free {kk j : Nat} (hj : j < 64 * kk) : freeJ (newO kk) j = (!fixB (j : Int) && !decide (43 ≤ j ∧ j < 49)) := by
  unfold freeJ newO
  rw [tabN_getD _ _ _ hj]
  unfold tabJ
  cases hf : fixB (j : Int)
  · rw [if_neg (by decide)]
    by_cases c : 43 ≤ j ∧ j < 49
    · rw [if_pos ⟨c.1, c.2, hj⟩, decide_eq_true c]; rfl
    · rw [if_neg (fun e => c ⟨e.1, e.2.1⟩), decide_eq_false c]; rfl
  · rw [if_pos rfl]; rfl
theorem obs_free {kk : Nat} : ∀ k j, freeJ (OwBs kk k) j = (freeJ (newO kk) j && !decide (49 ≤ j ∧ j < 49 + k ∧ j < 64 * kk))
  | 0, j => by rw [decide_eq_false (by omega)]; simp [OwBs]
  | k + 1, j => by
    have ih := obs_free (kk := kk) k j
    by_cases e : j = 49 + k ∧ j < 64 * kk
    · obtain ⟨rfl, hl⟩ := e
      rw [decide_eq_true (by omega)]
      unfold freeJ
      rw [OwBs, getD_set _ _ _ _ _ (by rw [obs_len]; exact hl), if_pos rfl]
      simp
    · have e1 : freeJ (OwBs kk (k + 1)) j = freeJ (OwBs kk k) j := by
        unfold freeJ
        by_cases hl : 49 + k < (OwBs kk k).length
        · rw [OwBs, getD_set _ _ _ _ _ hl, if_neg (by rw [obs_len] at hl; omega)]
        · rw [OwBs, List.set_eq_of_length_le (by omega)]
      rw [e1, ih]
      congr 2
      exact decide_eq_decide.2 (by omega)
theorem obs_find {kk k : Nat} (h1 : 1 ≤ kk) (hk : k < 10) : findS (OwBs kk k) (64 * kk) (goalS (64 * kk) (if k = 0 then 0 else 49 + (k : Int))) = 49 + (k : Int) ∧ cntU (OwBs kk k) (64 * kk) = cntU (newO kk) (64 * kk) + k := by
  have hfx : fixB ((49 + k : Nat) : Int) = false := by unfold fixB; exact decide_eq_false (by omega)
  have hfr : freeJ (OwBs kk k) (49 + k) = true := by
    rw [obs_free, new_free (by omega), hfx, decide_eq_false (by omega), decide_eq_false (by omega)]; rfl
  constructor
  · by_cases h0 : k = 0
    · subst h0
      rw [if_pos rfl]
      have e : goalS (64 * kk) 0 = 0 := by unfold goalS; split <;> rfl
      have em : ∀ j, j < 64 → (0 + j) % (64 * kk) = j := fun j hj => by rw [Nat.zero_add, Nat.mod_eq_of_lt (by omega)]
      rw [e, findS_hit (k := 49) (by omega) (by rw [em 49 (by decide)]; exact hfr) (fun j hj => ?_), em 49 (by decide)]; · rfl
      rw [em j (by omega), obs_free, new_free (by omega)]
      by_cases c : j < 43
      · rw [(fix_tab (j := j)).1 c]; rfl
      · rw [decide_eq_true (show 43 ≤ j ∧ j < 49 by omega)]; simp
    · rw [if_neg h0]
      have e : goalS (64 * kk) (49 + (k : Int)) = 49 + k := by unfold goalS; rw [if_neg (by omega)]; omega
      have em : (49 + k + 0) % (64 * kk) = 49 + k := by rw [Nat.add_zero, Nat.mod_eq_of_lt (by omega)]
      rw [e, findS_hit (k := 0) (by omega) (by rw [em]; exact hfr) (fun j hj => absurd hj (Nat.not_lt_zero _)), em]; omega
  · have : ∀ m, m ≤ k → cntU (OwBs kk m) (64 * kk) = cntU (newO kk) (64 * kk) + m := fun m hm => by
      induction m with
      | zero => rfl
      | succ m ih =>
        have hfx2 : fixB ((49 + m : Nat) : Int) = false := by unfold fixB; exact decide_eq_false (by omega)
        have hfr2 : freeJ (OwBs kk m) (49 + m) = true := by
          rw [obs_free, new_free (by omega), hfx2, decide_eq_false (by omega), decide_eq_false (by omega)]; rfl
        rw [OwBs, cntU_set (by rw [obs_len]; omega) hfr2 hfx2 (by decide) _ (by omega), ih (by omega)]; omega
    exact this k (Nat.le_refl _)
structure Bes (N : List (List Int)) (F : Nat → List Int) (k : Nat) : Prop where
  kd : kindN N 2 ≠ 0
  loc : ∀ b, b < 138 → locX (N.getD 2 []) (F 2) b = if b < k then 49 + (b : Int) else 0
section
variable {w : World} {P : Nat → Prop} {d p : Value} {X : XSt} {S : List Int} {N : List (List Int)} {kk : Nat} {F : Nat → List Int} {bf k : Nat}
theorem Bes.map (hb : Bes N F k) (hk : k < 10) (hkk : kk < 5) (h : Fmd w P d p (callX X) S N (OwBs kk k) kk F bf) :
    Calls Tryz.prog 15 #[.pointer (some ⟨bf, 0, none⟩), .int .i64 2, .int .i64 k] w fun e w' => e = .returned (.tuple #[.int .i64 (49 + (k : Int)), .int .i64 0]) ∧ ∃ P' X' N' F', Fmd w' P' d p X' S N' (OwBs kk (k + 1)) kk F' bf ∧ Bes N' F' (k + 1) ∧ Onw (callX X) X' ∧ Chg P P' w w' := by
  have h1 := h.pl.ok.k1
  obtain ⟨hf, hc⟩ := obs_find (kk := kk) h1 hk
  have h0 : locX (N.getD 2 []) (F 2) k = 0 := by rw [hb.loc k (by omega), if_neg (by omega)]
  have hg : goalX (N.getD 2 []) (F 2) k = if k = 0 then 0 else 49 + (k : Int) := by
    unfold goalX
    by_cases e : k = 0
    · rw [if_pos (.inl e), if_pos e]
    · have e2 := hb.loc (k - 1) (by omega)
      rw [if_pos (by omega)] at e2
      rw [if_neg (by rw [e2]; omega), if_neg e, e2]; omega
  refine (fmMap_new (n := 2) (i := k) (Q := baseQ S kk 2 (num (N.getD 2 []) 13)) h (by decide) (by decide) hb.kd (by omega) h0 (put_none _ _) (by rw [baseQ_len]; omega) (baseQ_ok _ _ _ _) (by
    rw [hc, cnt_new kk hkk h1]
    unfold needM
    rw [if_neg (by omega)]; push_cast; omega)).mono ?_
  rintro e w' ⟨v, P', X', N', O', F', he, hm, hr, hgc⟩
  obtain ⟨hO, hv⟩ := hr.near hk
  rw [hg, hf] at hv
  subst hv
  have e1 : (49 + (k : Int)).toNat = 49 + k := by omega
  rw [e1] at hO
  subst hO
  refine ⟨he, P', X', N', F', hm, ⟨?_, fun b hb2 => ?_⟩, hr.on, hgc⟩
  · rw [kind_num, hr.st.hd 0 (by decide), ← kind_num]; exact hb.kd
  · rw [hr.loc b hb2, hb.loc b hb2]
    by_cases e : b = k
    · rw [if_pos e, if_pos (by omega), e]
    · rw [if_neg e]
      by_cases c : b < k
      · rw [if_pos c, if_pos (by omega)]
      · rw [if_neg c, if_neg (by omega)]
theorem Bes.again (hb : Bes N F (k + 1)) (hk : k < 10) {O : List (Int × Int)} (h : Fmd w P d p X S N O kk F bf) :
    Calls Tryz.prog 15 #[.pointer (some ⟨bf, 0, none⟩), .int .i64 2, .int .i64 k] w fun e w' => e = .returned (.tuple #[.int .i64 (49 + (k : Int)), .int .i64 0]) ∧ Fmd w' P d p X S N O kk F bf ∧ Chg P P w w' := by
  have hl := hb.loc k (by omega)
  rw [if_pos (by omega)] at hl
  have := fmMap_old h (n := 2) (i := k) (by decide) (by decide) hb.kd (by omega) (by rw [hl]; omega)
  rw [hl] at this
  exact this
theorem Bes.pieces (hb : Bes N F k) (h1 : 1 ≤ k) (hk : k ≤ 10) (hx : (N.getD 2 []).length = 14) (hF : (F 2).length = 128) : pieX (allX (N.getD 2 []) (F 2)) 138 = 1 := by
  have hL : ∀ b, b < 138 → (allX (N.getD 2 []) (F 2)).getD b 0 = if b < k then 49 + (b : Int) else 0 := fun b hb2 => by rw [allX_get hx hF hb2]; exact hb.loc b hb2
  have : ∀ j, j ≤ 138 → pieX (allX (N.getD 2 []) (F 2)) j = if j = 0 then 0 else 1 := fun j hj => by
    induction j with
    | zero => rfl
    | succ j ih =>
      rw [pieX, ih (by omega), hL j (by omega), if_neg (show ¬ j + 1 = 0 by omega)]
      by_cases j0 : j = 0
      · subst j0
        rw [if_pos rfl, if_pos (show 0 < k by omega), if_pos]
        exact ⟨by decide, .inl rfl⟩
      · rw [if_neg j0, if_neg j0, hL (j - 1) (by omega)]
        by_cases c : j < k
        · rw [if_pos c, if_pos (show j - 1 < k by omega), if_neg (by omega)]
        · rw [if_neg c, if_neg (by intro e; exact e.1 rfl)]
  rw [this 138 (by decide)]; rfl
end
section
variable {w : World} {P : Nat → Prop} {d p : Value} {X : XSt} {G : List (List Int)} {S : List Int} {N : List (List Int)} {O : List (Int × Int)} {kk : Nat} {F : Nat → List Int} {bf : Nat} {Q : List Int}
theorem Pl.data (h : Pl noEx G S N O kk F) {v : Nat} {n i : Nat} (h1 : 1 ≤ n) (h48 : n < 48) (hi : i < 138) (ho : OwAt O kk v ((n : Int), (i : Int))) (l : List Int) : Pl noEx (G.set v l) S N O kk F := by
  have hne := open_ne ho.2.1
  refine ⟨h.has.other h.ok.k12 (.inr (.inr ho.2.1)) _, h.ok, h.tab.same (by rw [List.length_set]) fun a ha => getD_other _ _ _ ?_, h.fi.data (fun m k1 k48 hm e => ?_) _⟩
  · rcases ha with rfl | rfl | ⟨t, ht, rfl⟩
    · exact Ne.symm hne.1
    · exact Ne.symm hne.2
    · intro e
      have h2 := h.fi.tb t ht
      have h3 := ho.2.2
      rw [Int.toNat_natCast, ← e, h2] at h3
      have := (Prod.mk.inj h3).1
      omega
  · have hm2 := h.fi.map k1 k48 id hm
    refine hm2.ne ho (fun e3 => ?_) (by have := hm2.1; omega)
    have := (Prod.mk.inj e3).2
    omega
theorem Fmd.data (h : Fmd w P d p X S N O kk F bf) {v : Nat} {n i : Nat} (h1 : 1 ≤ n) (h48 : n < 48) (hi : i < 138) (ho : OwAt O kk v ((n : Int), (i : Int))) {l : List Int} (hl : l.length = 256) {u : Value} (hu : BSl w u l) (hp : X.put.length < 37) :
    Calls Tryz.prog 16 #[p, .int .i64 v, u] w fun e w' => e = .returned (.int .i64 0) ∧ ∃ P', Fmd w' P' d p (putB X v l) S N O kk F bf ∧ Chg P P' w w' := by
  have hb := ho.1
  have h12 := h.pl.ok.k12
  have hoj := ho.outJ h12
  rw [Int.toNat_natCast] at hoj
  refine (sPut_b h.inv h.wi hp (m := v) (by rw [h.isl]; omega) (by omega) hoj hl hu).mono ?_
  rintro e w' ⟨he, P', hi2, hg⟩
  obtain ⟨hfs, hnb⟩ := h.fs.chg hg h.nb
  exact ⟨he, P', ⟨hi2, h.wi, h.pl.data h1 h48 hi ho l, h.st, hfs, hnb⟩, hg⟩
structure Fre (G N : List (List Int)) (F : Nat → List Int) : Prop where
  kd : kindN N 3 ≠ 0
  m0 : num (N.getD 3 []) 13 = 0
  zr : ∀ b, b < 138 → locX (N.getD 3 []) (F 3) b ≠ 0 → G.getD (locX (N.getD 3 []) (F 3) b).toNat [] = z256
def Low (Q : List Int) (S : List Int) : Prop := (∀ g, g < 1 → (dscN g : Int) ∈ Q ∧ (dscN g : Int) + 1 ∈ Q) ∧ ((tabAt S 0 : Nat) : Int) ∈ Q
theorem Low.base (h : Low Q S) {n : Nat} (hn : n / 8 = 0) : Base Q S 1 n 0 := ⟨h.1, by rw [hn]; exact h.2, fun e => absurd rfl e⟩
theorem Low.more (h : Low Q S) (R : List Int) : Low (Q ++ R) S := ⟨fun g hg => ⟨List.mem_append_left _ (h.1 g hg).1, List.mem_append_left _ (h.1 g hg).2⟩, List.mem_append_left _ h.2⟩
theorem low_any (S : List Int) : Low (baseQ S 1 2 0) S := ⟨(baseQ_ok S 1 2 0).g, (baseQ_ok S 1 2 0).t⟩
theorem own_data {n i : Nat} (hi : i < 138) {v : Int} (ho : OwAt O kk v ((n : Int), atX i)) : OwAt O kk (v.toNat : Nat) ((n : Int), (i : Int)) := by
  have hb := ho.1
  have e : ((v.toNat : Nat) : Int) = v := by omega
  rw [e]
  have : atX i = (i : Int) := by unfold atX; rw [if_neg (by omega)]
  rwa [← this]
theorem Fre.map (hz : Fre X.call N F) (h : Fmd w P d p X S N O 1 F bf) {i : Nat} (hi : i < 10) (hq : PutS X Q) (hQ : Q.length ≤ 34) (hL : Low Q S) (hc : cntU O 64 ≤ 18) :
    Calls Tryz.prog 15 #[.pointer (some ⟨bf, 0, none⟩), .int .i64 3, .int .i64 i] w fun e w' => ∃ (v : Nat) (P' : Nat → Prop) (X' : XSt) (N' : List (List Int)) (O' : List (Int × Int)) (F' : Nat → List Int) (Q' : List Int), e = .returned (.tuple #[.int .i64 v, .int .i64 0]) ∧ (v < X'.cur.length ∧ OutJ v ∧ X'.cur.getD v [] = z256) ∧ Fmd w' P' d p X' S N' O' 1 F' bf ∧ Fre X'.call N' F' ∧ Onw X X' ∧ PutS X' Q' ∧ Q'.length ≤ Q.length + 1 ∧ Low Q' S ∧ cntU O' 64 ≤ cntU O 64 + 1 ∧ Chg P P' w w' := by
  by_cases h0 : locX (N.getD 3 []) (F 3) i = 0
  · refine (fmMap_new (n := 3) (i := i) (Q := Q) h (by decide) (by decide) hz.kd (by omega) h0 hq hQ (by rw [hz.m0]; exact hL.base rfl) (by
      rw [hz.m0]
      unfold needM
      rw [if_neg (by omega)]
      show ((cntU O (64 * 1) : Nat) : Int) + 1 ≤ _
      rw [Nat.mul_one]; omega)).mono ?_
    rintro e w' ⟨v, P', X', N', O', F', he, hm, hr, hg⟩
    have hx := h.pl.tab.n.get (j := 3) (by decide)
    obtain ⟨R, _, hR, hp⟩ := hr.pt
    have hR := hR hi
    subst hR
    have hlv := hr.loc i (by omega)
    rw [if_pos rfl] at hlv
    have ho := hm.pl.fi.ow 3 i (by decide) (by decide) (by omega) id (by rw [hlv]; have := hr.v0; omega)
    rw [hlv] at ho
    have hvb := ho.1
    have hm0 : num (N'.getD 3 []) 13 = 0 := by
      apply Classical.byContradiction
      intro hn
      rcases hr.mp.1 hn with e | e
      · exact e hz.m0
      · omega
    have ev : ((v.toNat : Nat) : Int) = v := by omega
    refine ⟨v.toNat, P', X', N', O', F', Q ++ [v], by rw [ev]; exact he, ⟨?_, ho.outJ (by decide), by rw [hm.cur]; exact hr.zer⟩, hm, ⟨?_, hm0, fun b hb hne => ?_⟩, hr.on, hp, by simp, hL.more _, ?_, hg⟩
    · rw [hm.cur, hm.pl.has.len]; omega
    · rw [kind_num, hr.st.hd 0 (by decide), ← kind_num]; exact hz.kd
    · rw [hr.loc b hb] at hne ⊢
      by_cases e : b = i
      · rw [if_pos e]; exact hr.zer
      · rw [if_neg e] at hne ⊢
        have hob := own_data hb (h.pl.fi.ow 3 b (by decide) (by decide) (by omega) id hne)
        have e1 := hob.2.2
        rw [Int.toNat_natCast] at e1
        have e2 := hr.st.old _ (by rw [e1]; simp)
        rw [hr.st.dat _ (by rw [e2, e1]; simp) (by rw [e2, e1]; simp) (by rw [e2, e1]; show ((b : Nat) : Int) ≠ 65535; omega) e2.symm]
        exact hz.zr b hb hne
    · have e1 := (hr.near hi).1
      have hc1 := hr.st.cnt
      have hu : usedX (N'.getD 3 []) (F' 3) ≤ usedX (N.getD 3 []) (F 3) + 1 := by
        have := usedX_more (x := N.getD 3 []) (F := F 3) (y := N'.getD 3 []) (F' := F' 3) (i := i) (by omega) h0 (v := v) (by have := hr.v0; omega) fun b hb => by
          by_cases e138 : b = 138
          · subst e138
            rw [if_neg (by omega), locX_map, locX_map, hm0, hz.m0]
          · exact hr.loc b (by omega)
        omega
      have e64 : 64 * 1 = 64 := rfl
      rw [e64] at hc1
      omega
  · refine (fmMap_old h (n := 3) (i := i) (by decide) (by decide) hz.kd (by omega) h0).mono ?_
    rintro e w' ⟨he, hm, hg⟩
    have ho := h.pl.fi.ow 3 i (by decide) (by decide) (by omega) id h0
    have hvb := ho.1
    have ev : (((locX (N.getD 3 []) (F 3) i).toNat : Nat) : Int) = locX (N.getD 3 []) (F 3) i := by omega
    exact ⟨(locX (N.getD 3 []) (F 3) i).toNat, P, X, N, O, F, Q, by rw [ev]; exact he, ⟨by rw [hm.cur, hm.pl.has.len]; omega, ho.outJ (by decide), by rw [hm.cur]; exact hz.zr i (by omega) h0⟩, hm, hz, Onw.refl X, hq, Nat.le_succ _, hL, Nat.le_succ _, hg⟩
structure Fre2 (w : World) (P : Nat → Prop) (d p : Value) (X : XSt) (S : List Int) (N : List (List Int)) (O : List (Int × Int)) (F : Nat → List Int) (bf v i : Nat) (Q : List Int) : Prop where
  md : Fmd w P d p X S N O 1 F bf
  k2 : kindN N 2 ≠ 0
  m2 : num (N.getD 2 []) 13 = 0
  ow : OwAt O 1 v ((2 : Nat), (i : Int))
  k3 : kindN N 3 ≠ 0
  l3 : ∀ b, b < 139 → locX (N.getD 3 []) (F 3) b = 0
  q : PutS X Q
  ql : Q.length ≤ 5
  lo : Low Q S
  cn : cntU O 64 ≤ 7
  vq : (v : Int) ∈ Q
theorem fresh_map {i : Nat} (hi : i < 10) (h : Fmd w P d p (callX X) (newS 1) (N14 4) (newO 1) 1 F14 bf) :
    Calls Tryz.prog 15 #[.pointer (some ⟨bf, 0, none⟩), .int .i64 2, .int .i64 i] w fun e w' => ∃ (v : Nat) (P' : Nat → Prop) (X' : XSt) (N' : List (List Int)) (O' : List (Int × Int)) (F' : Nat → List Int) (Q : List Int), e = .returned (.tuple #[.int .i64 v, .int .i64 0]) ∧ Fre2 w' P' d p X' (newS 1) N' O' F' bf v i Q ∧ Onw (callX X) X' ∧ Chg P P' w w' := by
  have hm2 : num ((N14 4).getD 2 []) 13 = 0 := n14_loc (c := 4) (m := 2) (i := 138) (by decide) (by decide) (by decide)
  refine (fmMap_new (n := 2) (i := i) (Q := baseQ (newS 1) 1 2 0) h (by decide) (by decide) (by rw [n14_kind (by decide) (by decide)]; decide) (by omega) (n14_loc (by decide) (by decide) (by omega)) (put_none _ _) (by rw [baseQ_len]; decide) (by rw [hm2]; exact baseQ_ok _ _ _ _) (by
      rw [cnt_new 1 (by decide) (by decide)]
      unfold needM
      rw [if_neg (by omega)]; decide)).mono ?_
  rintro e w' ⟨v, P', X', N', O', F', he, hm, hr, hg⟩
  obtain ⟨R, _, hR, hp⟩ := hr.pt
  have hR := hR hi
  subst hR
  have hlv := hr.loc i (by omega)
  rw [if_pos rfl] at hlv
  have ho := hm.pl.fi.ow 2 i (by decide) (by decide) (by omega) id (by rw [hlv]; have := hr.v0; omega)
  rw [hlv] at ho
  have hvb := ho.1
  have ev : ((v.toNat : Nat) : Int) = v := by omega
  have hmp : num (N'.getD 2 []) 13 = 0 := by
    apply Classical.byContradiction
    intro hn
    rcases hr.mp.1 hn with e | e
    · exact e hm2
    · omega
  refine ⟨v.toNat, P', X', N', O', F', baseQ (newS 1) 1 2 0 ++ [v], by rw [ev]; exact he, ⟨hm, ?_, hmp, own_data (by omega) ho, ?_, fun b hb => ?_, hp, by rw [List.length_append, baseQ_len]; simp, (low_any _).more _, ?_, ?_⟩, hr.on, hg⟩
  · rw [kind_num, hr.st.hd 0 (by decide), ← kind_num, n14_kind (by decide) (by decide)]; decide
  · rw [kind_num, (hr.st.oth 3 (by decide)).1, ← kind_num, n14_kind (by decide) (by decide)]; decide
  · rw [(hr.st.oth 3 (by decide)).1, (hr.st.oth 3 (by decide)).2]; exact n14_loc (by decide) (by decide) hb
  · have hc1 := hr.st.cnt
    have hu := usedX_more (x := (N14 4).getD 2 []) (F := F14 2) (y := N'.getD 2 []) (F' := F' 2) (i := i) (by omega) (n14_loc (by decide) (by decide) (by omega)) (v := v) (by have := hr.v0; omega) fun b hb => by
      by_cases e138 : b = 138
      · subst e138
        rw [if_neg (by omega), locX_map, locX_map, hmp, hm2]
      · exact hr.loc b (by omega)
    have e64 : 64 * 1 = 64 := rfl
    have hcn := cnt_new 1 (by decide) (by decide)
    rw [e64] at hc1 hcn
    omega
  · rw [ev]; exact List.mem_append_right _ (List.mem_singleton.2 rfl)
theorem Fre2.put {v i : Nat} (h : Fre2 w P d p X S N O F bf v i Q) (hi : i < 10) {l : List Int} (hl : l.length = 256) {u : Value} (hu : BSl w u l) :
    Calls Tryz.prog 16 #[p, .int .i64 v, u] w fun e w' => e = .returned (.int .i64 0) ∧ ∃ P', Fre2 w' P' d p (putB X v l) S N O F bf v i Q ∧ Chg P P' w w' := by
  refine (h.md.data (n := 2) (by decide) (by decide) (by omega) h.ow hl hu (by have := h.q.le; have := h.ql; omega)).mono ?_
  rintro e w' ⟨he, P', hm, hg⟩
  exact ⟨he, P', { h with md := hm, q := h.q.add h.vq rfl }, hg⟩
theorem Fre2.cut {v i : Nat} (h : Fre2 w P d p X S N O F bf v i Q) :
    Calls Tryz.prog 17 #[.pointer (some ⟨bf, 0, none⟩), .int .i64 2, .int .i64 0] w fun e w' => e = .returned (.int .i64 0) ∧ ∃ P' X' N' O' F', Fmd w' P' d p X' S N' O' 1 F' bf ∧ Fre X'.call N' F' ∧ Onw X X' ∧ PutS X' Q ∧ cntU O' 64 ≤ 7 ∧ Chg P P' w w' := by
  have := fmCut_of h.md (n := 2) (a := 0) (by decide) (by decide) h.k2 (by decide) h.q (by have := h.ql; omega) (by rw [h.m2]; exact h.lo.base rfl)
  refine this.mono ?_
  rintro e w' ⟨he, P', X', N', O', F', hm, hr, hg⟩
  have h3 := hr.st.oth 3 (by decide)
  refine ⟨he, P', X', N', O', F', hm, ⟨?_, ?_, fun b hb hne => ?_⟩, hr.on, hr.pt, ?_, hg⟩
  · rw [kind_num, h3.1, ← kind_num]; exact h.k3
  · rw [h3.1]; exact h.l3 138 (by decide)
  · rw [h3.1, h3.2] at hne
    exact absurd (h.l3 b (by omega)) hne
  · have hc1 := hr.st.cnt
    have h0 : ∀ b, b < 139 → locX (N'.getD 2 []) (F' 2) b = 0 := fun b hb => by
      by_cases e : b = 138
      · subst e
        apply Classical.byContradiction
        intro hn
        exact (hr.mp.1 hn).1 h.m2
      · rw [hr.loc b (by omega), if_pos (Nat.zero_le _)]
    have hu : ∀ k, k ≤ 139 → cntX (locX (N'.getD 2 []) (F' 2)) k = 0 := fun k hk => by
      induction k with
      | zero => rfl
      | succ k ih => rw [cntX, ih (by omega), h0 k (by omega)]; rfl
    have hu2 : usedX (N'.getD 2 []) (F' 2) = 0 := hu 139 (Nat.le_refl _)
    have e64 : 64 * 1 = 64 := rfl
    rw [e64] at hc1
    have := h.cn
    omega
end
end Go.Proofs.YtaakepjgpnaecaaGreat
namespace Go.Proofs.YtaakepjgpnaecaaGreat
set_option maxRecDepth 100000
open Go.RowKit
theorem u8_wrap (z : Int) : 0 ≤ IntKind.u8.wrap z ∧ IntKind.u8.wrap z ≤ 255 := by
  rw [IntKind.wrap_u8]; omega
theorem lFmF_other {x y : Int} {w : World} {v : Value} {l : List Int} (hv : BSl w v l) (hl : l.length ≠ 256) : Calls Tryz.prog 4 #[.int .u8 x, .int .u8 y, v] w fun e w' => e = .returned (.bool true) ∧ Below w.heap.size w w' := by
  have KA1 := Lib.hid (awake14_any w)
  have KA := Lib.hid awake14_any
  obtain ⟨ao, cap, rfl, _⟩ := hv.shape
  have hL2 : ((l.length : Int) != 256) = true := by simp; omega
  clear hv hl
  go_enter Tryz.func4, Tryz.ntmps4
  go_wp2_with (first
    | (go_at_call 6; (with_reducible refine KA1.out.mono ?_); rintro e w2 ⟨rfl, hb2⟩)
    | (go_at_call 6; refine (KA.out _).mono ?_; rintro e w3 ⟨rfl, hb3⟩))
  go_ret
  exact ⟨rfl, hb2.trans (hb3.mono hb2.size)⟩
def Frl (w : World) (d p : Value) (bf c : Nat) (wr : World) : Prop :=
  ∃ P X N O F Q, Fsm w wr P d p X (newS 1) (N14 4) (newO 1) 1 F14 bf ∧ Fmd wr P d p X (newS 1) N O 1 F bf ∧ Fre X.call N F ∧ PutS X Q ∧ Q.length ≤ 5 + c ∧ Low Q (newS 1) ∧ cntU O 64 ≤ 7 + c
set_option maxHeartbeats 2000000 in
theorem lFmF_256 {x y : Int} (hx : 0 ≤ x ∧ x ≤ 255) (hy : 0 ≤ y ∧ y ≤ 255) {w : World} {v : Value} {l : List Int} (hv : BSl w v l) (hl : l.length = 256) : Calls Tryz.prog 4 #[.int .u8 x, .int .u8 y, v] w fun e w' => e = .returned (.bool true) ∧ Below w.heap.size w w' := by
  have KA1 := Lib.hid (awake14_any w)
  obtain ⟨r, hr⟩ : ∃ r : Nat, (r : Int) = x % 10 := ⟨(x % 10).toNat, by omega⟩
  have hr10 : r < 10 := by omega
  have ht : x.tmod 10 = r := by rw [Int.tmod_eq_emod_of_nonneg hx.1]; exact hr.symm
  have hr1 : (r : Int) < 10 := by omega
  have KM : Hid (∀ V : World, Below w.heap.size w V → Calls Tryz.prog 7 #[.int .i64 64] V fun e w' => ∃ bf b P d X, e = .returned (.pointer (some ⟨bf, 0, none⟩)) ∧ Fsd w w' P d (.pointer (some ⟨b, 0, none⟩)) X (newS 1) (N14 4) (newO 1) 1 F14 bf) := Lib.hid fun V hb => made_of (kk := 1) (by decide) (by decide) w hb
  have K1 : Hid (∀ (V : World) (P : Nat → Prop) (d p : Value) (X : XSt) (bf : Nat), Fsm w V P d p (callX X) (newS 1) (N14 4) (newO 1) 1 F14 bf → Fmd V P d p (callX X) (newS 1) (N14 4) (newO 1) 1 F14 bf → Calls Tryz.prog 15 #[.pointer (some ⟨bf, 0, none⟩), .int .i64 2, .int .i64 r] V fun e w' => ∃ (v : Nat) (P' : Nat → Prop) (X' : XSt) (N' : List (List Int)) (O' : List (Int × Int)) (F' : Nat → List Int) (Q : List Int), e = .returned (.tuple #[.int .i64 v, .int .i64 0]) ∧ Fre2 w' P' d p X' (newS 1) N' O' F' bf v r Q ∧ Fsm w w' P' d p X' (newS 1) (N14 4) (newO 1) 1 F14 bf) := Lib.hid fun V P d p X bf hs hm =>
    (fresh_map hr10 hm).mono fun e w' ⟨v, P', X', N', O', F', Q, he, hf, ho, hg⟩ => ⟨v, P', X', N', O', F', Q, he, hf, hs.next hf.md.inv hf.md.wi ho hg⟩
  have K2 : Hid (∀ (V : World) (P : Nat → Prop) (d p : Value) (X : XSt) (N : List (List Int)) (O : List (Int × Int)) (F : Nat → List Int) (bf n : Nat) (Q : List Int), Fre2 V P d p X (newS 1) N O F bf n r Q → Fsm w V P d p X (newS 1) (N14 4) (newO 1) 1 F14 bf → Calls Tryz.prog 16 #[p, .int .i64 n, v] V fun e w' => e = .returned (.int .i64 0) ∧ ∃ P' X', Fre2 w' P' d p X' (newS 1) N O F bf n r Q ∧ Fsm w w' P' d p X' (newS 1) (N14 4) (newO 1) 1 F14 bf) := Lib.hid fun V P d p X N O F bf n Q hf hs =>
    (hf.put hr10 hl (hv.below hs.be)).mono fun e w' ⟨he, P', hf', hg⟩ => ⟨he, P', _, hf', hs.next hf'.md.inv hf'.md.wi ⟨rfl, rfl⟩ hg⟩
  have K3 : Hid (∀ (V : World) (P : Nat → Prop) (d p : Value) (X : XSt) (N : List (List Int)) (O : List (Int × Int)) (F : Nat → List Int) (bf n : Nat) (Q : List Int), Fre2 V P d p X (newS 1) N O F bf n r Q → Fsm w V P d p X (newS 1) (N14 4) (newO 1) 1 F14 bf → Calls Tryz.prog 17 #[.pointer (some ⟨bf, 0, none⟩), .int .i64 2, .int .i64 0] V fun e w' => e = .returned (.int .i64 0) ∧ Frl w d p bf 0 w') := Lib.hid fun V P d p X N O F bf n Q hf hs =>
    hf.cut.mono fun e w' ⟨he, P', X', N', O', F', hm, hz, ho, hq, hc, hg⟩ => ⟨he, P', X', N', O', F', Q, hs.next hm.inv hm.wi ho hg, hm, hz, hq, hf.ql, hf.lo, hc⟩
  have K4 : Hid (∀ (V : World) (d p : Value) (bf c i : Nat), i < 10 → c < 8 → Frl w d p bf c V → Calls Tryz.prog 15 #[.pointer (some ⟨bf, 0, none⟩), .int .i64 3, .int .i64 i] V fun e w' => ∃ v : Nat, e = .returned (.tuple #[.int .i64 v, .int .i64 0]) ∧ Frl w d p bf (c + 1) w' ∧ FsAt w' bf p ∧ Calls Tryz.prog 18 #[p, .int .i64 v] w' fun e w'' => ∃ u, e = .returned (.tuple #[u, .int .i64 0]) ∧ BSl w'' u z256 ∧ Frl w d p bf (c + 1) w'') := Lib.hid fun V d p bf c i hi hc ⟨P, X, N, O, F, Q, hs, hm, hz, hq, hql, hlo, hcn⟩ =>
    (hz.map hm hi hq (by omega) hlo (by omega)).mono fun e w' ⟨v, P', X', N', O', F', Q', he, hv, hm', hz', ho, hq', hql', hlo', hcn', hg⟩ => by
      have hs' := hs.next hm'.inv hm'.wi ho hg
      refine ⟨v, he, ⟨P', X', N', O', F', Q', hs', hm', hz', hq', by omega, hlo', by omega⟩, hm'.fs, ?_⟩
      refine (sGet_cur hm'.inv hv.1 hv.2.1 hv.2.2 (Below.refl _ _)).mono ?_
      rintro e2 w'' ⟨u, he2, hu, hb⟩
      exact ⟨u, he2, hu, P', X', N', O', F', Q', hs'.next (hm'.inv.low hb) hm'.wi (Onw.refl _) (Chg.of_below hb), hm'.low hb, hz', hq', by omega, hlo', by omega⟩
  have K5 : Hid (∀ (V : World) (d p : Value) (bf c : Nat), Frl w d p bf c V → FsAt V bf p ∧ Calls Tryz.prog 19 #[p, .bool true] V fun e w' => e = .returned (.int .i64 0) ∧ Below w.heap.size w w') := Lib.hid fun V d p bf c ⟨P, X, N, O, F, Q, hs, hm, _⟩ =>
    ⟨hs.fs, (hs.keep hm).mono fun e w' ⟨he, P', X', hf, _⟩ => ⟨he, hf.be⟩⟩
  obtain ⟨ao, cap, rfl, _⟩ := hv.shape
  rw [hl] at K2 ⊢
  have HY := Lib.hid hy
  clear hr hx hy hv hl
  go_enter Tryz.func4, Tryz.ntmps4
  go_wp2_with (first
    | (go_at_call 6; refine KA1.out.mono ?_; rintro e w2 ⟨rfl, hb2⟩)
    | (go_at_call 7; refine (KM.out _ hb2).mono ?_; rintro e w3 ⟨bf, b, P3, d, X3, rfl, hf3⟩; have c3 := hf3.fs.cell; have KB := Lib.hid hf3.begin)
    | (go_at_call 14; refine KB.out.mono ?_; rintro e w4 ⟨rfl, P4, hs4, hm4, _⟩)
    | (go_at_call 15; refine (K1.out _ _ _ _ _ _ hs4 hm4).mono ?_; rintro e w5 ⟨n, P5, X5, N5, O5, F5, Q5, rfl, hf5, hs5⟩; have c5 := hs5.fs.cell)
    | (go_at_call 16; refine (K2.out _ _ _ _ _ _ _ _ _ _ _ hf5 hs5).mono ?_; rintro e w6 ⟨rfl, P6, X6, hf6, hs6⟩)
    | (go_at_call 17; refine (K3.out _ _ _ _ _ _ _ _ _ _ _ hf6 hs6).mono ?_; rintro e w7 ⟨rfl, hl7⟩))
  have H0 := Lib.hid hl7
  clear hf3 hs4 hm4 hf5 hs5 hf6 hs6 hl7 c3 c5 hb2
  go_loopw [1, 58] (fun z i wr => ∃ c : Nat, c ≤ 8 ∧ i = .int .i64 c ∧ (∃ k : Int, (0 ≤ k ∧ k ≤ 255) ∧ z = .int .u8 k) ∧ Hid (Frl w d (.pointer (some ⟨b, 0, none⟩)) bf c wr)) (fun _ i _ => 8 - (intOf i).toNat)
  case atStart => exact ⟨0, by omega, rfl, ⟨y, HY.out, rfl⟩, H0⟩
  case round =>
    obtain ⟨c, hc, rfl, ⟨k, hk, rfl⟩, HS⟩ := hrel
    clear H0
    by_cases hlt : c < 8
    · obtain ⟨s, hs⟩ : ∃ s : Nat, (s : Int) = k % 10 := ⟨(k % 10).toNat, by omega⟩
      have hs10 : s < 10 := by omega
      have ht2 : k.tmod 10 = s := by rw [Int.tmod_eq_emod_of_nonneg hk.1]; exact hs.symm
      have hs1 : (s : Int) < 10 := by omega
      have K6 := Lib.hid (K4.out wr d _ bf c s hs10 hlt HS.out)
      have ec : (c : Int) < 8 := by omega
      have hwk := u8_wrap (k + 1)
      have HWK := Lib.hid hwk
      clear hs hk hwk HS
      go_wp2_with (first
        | (go_at_call 15; refine K6.out.mono ?_; rintro e w8 ⟨m, rfl, hl8, hf8, KG⟩; have c8 := hf8.cell)
        | (go_at_call 18; refine KG.mono ?_; rintro e w9 ⟨u, rfl, hu, hl9⟩))
      obtain ⟨T, hT⟩ : ∃ T, T = strOfNums z256 := ⟨_, rfl⟩
      obtain ⟨Z, hZ⟩ : ∃ Z, Z = Array.replicate 256 (Value.int .u8 0) := ⟨_, rfl⟩
      have HV1 : Hid (∀ W, Below w9.heap.size w9 W → (convert 49 9 u).run Tryz.prog W = .ok (.string T) W) := Lib.hid fun W hb => by rw [hT]; exact conv_later hu W hb
      have hv2 : (convert 49 9 (.slice (some ⟨w9.heap.size, 0, none⟩) 256 256)).run Tryz.prog (w9.alloc (.cells Z 5)).drew = .ok (.string T) (w9.alloc (.cells Z 5)).drew := by
        have hr := heap_alloc_new w9 (.cells Z 5)
        rw [hT]
        rw [hZ] at hr ⊢
        exact conv_bsl (w := (w9.alloc (.cells (Array.replicate 256 (Value.int .u8 0)) 5)).drew) (bsl_zero hr)
      have hmk := fun W => make_n W 256 (by decide) 256 rfl
      rw [← hZ] at hmk
      obtain ⟨uo, uc, rfl, _⟩ := hu.shape
      have hl256 : z256.length = 256 := List.length_replicate
      rw [hl256] at HV1 ⊢
      have v1 := HV1.out _ ((Below.refl _ w9).drew)
      have v3 := HV1.out _ ((below_box w9 (.cells Z 5)).drew)
      have HL9 := Lib.hid hl9
      have HDR : Hid (∀ W, Below w9.heap.size w9 W → Frl w d (.pointer (some ⟨b, 0, none⟩)) bf (c + 1) W) := Lib.hid fun W hb => by
        obtain ⟨P, X, N, O, F, Q, hs, hm, hz⟩ := hl9
        exact ⟨P, X, N, O, F, Q, hs.next (hm.inv.low hb) hm.wi (Onw.refl _) (Chg.of_below hb), hm.low hb, hz⟩
      clear hT hZ hu hl9 hl8 hf8 c8 hl256
      refine wp_region_held_drew (S := fun W => (convert 49 9 (.slice uo 256 uc)).run Tryz.prog W = .ok (.string T) W) (by kernel_rfl) v1 (fun hHeld => ?_)
      clear hHeld
      refine tk 0 (.int .i64 0) rfl (by kernel_rfl) (fun _ _ _ h => h) (Or.inl ⟨by rfl, ?_⟩) (by assumption) ?_
      · intro W hM; go_simp
      (try simp only [Act.put, q1, q2, q3, q4, q5, q6])
      refine tk 1 (.bool false) rfl (by kernel_rfl) (fun _ _ _ h => h) (Or.inl ⟨by rfl, ?_⟩) (by assumption) ?_
      · intro W hM; go_simp
      (try simp only [Act.put, q1, q2, q3, q4, q5, q6])
      refine tk 2 (.bool false) rfl (by kernel_rfl) (fun _ _ _ h => h) (Or.inl ⟨by rfl, ?_⟩) (by assumption) ?_
      · intro W hM; go_simp
      (try simp only [Act.put, q1, q2, q3, q4, q5, q6])
      refine tk 3 (.int .i64 0) rfl (by kernel_rfl) (fun _ _ _ h => h) (Or.inl ⟨by rfl, ?_⟩) (by assumption) ?_
      · intro W hM; go_simp
      (try simp only [Act.put, q1, q2, q3, q4, q5, q6])
      refine tk 4 (.bool false) rfl (by kernel_rfl) (fun _ _ _ h => h) (Or.inl ⟨by rfl, ?_⟩) (by assumption) ?_
      · intro W hM; go_simp
      (try simp only [Act.put, q1, q2, q3, q4, q5, q6])
      refine tk 5 (.bool false) rfl (by kernel_rfl) (fun _ _ _ h => h) (Or.inl ⟨by rfl, ?_⟩) (by assumption) ?_
      · intro W hM; go_simp
      (try simp only [Act.put, q1, q2, q3, q4, q5, q6])
      refine tk 6 (.bool false) rfl (by kernel_rfl) (fun _ _ _ h => h) (Or.inl ⟨by rfl, ?_⟩) (by assumption) ?_
      · intro W hM; go_simp
      (try simp only [Act.put, q1, q2, q3, q4, q5, q6])
      refine tk 7 (.slice uo 256 uc) rfl (by kernel_rfl) (fun _ _ _ h => h) (Or.inl ⟨by rfl, ?_⟩) (by assumption) ?_
      · intro W hM; go_simp
      (try simp only [Act.put, q1, q2, q3, q4, q5, q6])
      refine tk 8 (.string T) rfl (by kernel_rfl) (fun _ _ _ h => h) (Or.inl ⟨by rfl, ?_⟩) (by assumption) ?_
      · intro W hM; go_simp
      (try simp only [Act.put, q1, q2, q3, q4, q5, q6])
      refine wpAnyH_ready (rs := [9]) (by kernel_rfl) (by simp) (AllReadyH.cons rfl (fun K hK => ?_) AllReadyH.nil)
      go_simp
      refine hK.out _ _ v3 (fun hHeld => ?_)
      clear hK K hHeld
      (try simp only [Act.put, q1, q2, q3, q4, q5, q6])
      refine wpAnyH_ready (rs := [10]) (by kernel_rfl) (by simp) (AllReadyH.cons rfl (fun K hK => ?_) AllReadyH.nil)
      go_simp
      refine hK.out _ _ v3 (fun hHeld => ?_)
      clear hK K hHeld
      (try simp only [Act.put, q1, q2, q3, q4, q5, q6])
      refine tk 11 (.bool false) rfl (by kernel_rfl) (fun _ _ _ h => h) (Or.inl ⟨by rfl, ?_⟩) (by assumption) ?_
      · intro W hM; go_simp
      (try simp only [Act.put, q1, q2, q3, q4, q5, q6])
      refine tk 12 (.bool false) rfl (by kernel_rfl) (fun _ _ _ h => h) (Or.inl ⟨by rfl, ?_⟩) (by assumption) ?_
      · intro W hM; go_simp
      (try simp only [Act.put, q1, q2, q3, q4, q5, q6])
      refine wpAnyH_done (by kernel_rfl) ?_ _
      go_wp2
      go_roundw
      case rel => exact ⟨c + 1, by omega, by go_num, ⟨_, HWK.out, rfl⟩, Lib.hid (HDR.out _ ((below_box w9 (.cells Z 5)).drew))⟩
      case measure => simp [intOf]; omega
    · obtain rfl : c = 8 := by omega
      obtain ⟨hf, hE⟩ := K5.out _ _ _ _ _ HS.out
      have cf := hf.cell
      have KE := Lib.hid hE
      clear hf hE HS
      go_wp2_with (go_at_call 19; refine KE.out.mono ?_; rintro e w6 ⟨rfl, hb6⟩)
      go_ret
      exact ⟨by trivial, hb6⟩
theorem lFmFresh_of {x y : Int} (hx : 0 ≤ x ∧ x ≤ 255) (hy : 0 ≤ y ∧ y ≤ 255) {w : World} {v : Value} {l : List Int} (hv : BSl w v l) : Calls Tryz.prog 4 #[.int .u8 x, .int .u8 y, v] w fun e w' => e = .returned (.bool true) ∧ Below w.heap.size w w' := by
  by_cases h : l.length = 256
  · exact lFmF_256 hx hy hv h
  · exact lFmF_other hv h
end Go.Proofs.YtaakepjgpnaecaaGreat
namespace Go.Proofs.YtaakepjgpnaecaaGreat
set_option maxRecDepth 100000
open Go.RowKit
set_option maxHeartbeats 2000000 in
theorem lFmBeside_of {x y : Int} (hx : 0 ≤ x ∧ x ≤ 255) (hy : 0 ≤ y ∧ y ≤ 255) (w : World) : Calls Tryz.prog 5 #[.int .u8 x, .int .u8 y] w fun e w' => e = .returned (.bool true) ∧ Below w.heap.size w w' := by
  have KA := Lib.hid (awake14_any w)
  obtain ⟨r, hr⟩ : ∃ r : Nat, (r : Int) = x % 4 := ⟨(x % 4).toNat, by omega⟩
  have hr4 : r < 4 := by omega
  have ht : x.tmod 4 = r := by rw [Int.tmod_eq_emod_of_nonneg hx.1]; exact hr.symm
  have hr1 : (r : Int) < 4 := by omega
  obtain ⟨s, hs⟩ : ∃ s : Nat, (s : Int) = y % 10 := ⟨(y % 10).toNat, by omega⟩
  have hs10 : s < 10 := by omega
  have ht2 : y.tmod 10 = s := by rw [Int.tmod_eq_emod_of_nonneg hy.1]; exact hs.symm
  have hs1 : (s : Int) < 10 := by omega
  obtain ⟨kk, hkk⟩ : ∃ kk, kk = r + 1 := ⟨_, rfl⟩
  have KM : Hid (∀ V : World, Below w.heap.size w V → Calls Tryz.prog 7 #[.int .i64 (64 * (1 + (r : Int)))] V fun e w' => ∃ bf b P d X, e = .returned (.pointer (some ⟨bf, 0, none⟩)) ∧ Fsd w w' P d (.pointer (some ⟨b, 0, none⟩)) X (newS kk) (N14 4) (newO kk) kk F14 bf) := Lib.hid fun V hb => by
    have := made_of (kk := kk) (by omega) (by omega) w hb
    rw [show 64 * (kk : Int) = 64 * (1 + (r : Int)) by rw [hkk]; push_cast; omega] at this
    exact this
  have HKK : Hid (1 ≤ kk ∧ kk < 5) := Lib.hid (by omega)
  clear hr hs hx hy hkk
  go_enter Tryz.func5, Tryz.ntmps5
  go_wp2_with (first
    | (go_at_call 6; refine KA.out.mono ?_; rintro e w2 ⟨rfl, hb2⟩)
    | (go_at_call 7; refine (KM.out _ hb2).mono ?_; rintro e w3 ⟨bf, b, P3, d, X3, rfl, hf3⟩))
  have H0 : Hid (∃ P X N F, Fsd w w3 P d (.pointer (some ⟨b, 0, none⟩)) X (newS kk) N (OwBs kk 0) kk F bf ∧ Bes N F 0) := Lib.hid ⟨P3, X3, _, _, hf3, ⟨by rw [n14_kind (by decide) (by decide)]; decide, fun b hb => by rw [n14_loc (by decide) (by decide) (by omega), if_neg (by omega)]⟩⟩
  clear hf3 hb2
  go_loopw [7, 30] (fun l i wr => ∃ k : Nat, k ≤ s + 1 ∧ i = .int .i64 k ∧ l = .int .i64 (if k = 0 then 0 else 48 + (k : Int)) ∧ Hid (∃ P X N F, Fsd w wr P d (.pointer (some ⟨b, 0, none⟩)) X (newS kk) N (OwBs kk k) kk F bf ∧ Bes N F k)) (fun _ i _ => s + 1 - (intOf i).toNat)
  case atStart => exact ⟨0, by omega, rfl, rfl, H0⟩
  case round =>
    obtain ⟨k, hk, rfl, rfl, HS⟩ := hrel
    clear H0
    by_cases hlt : k < s + 1
    · obtain ⟨P, X, N, F, hsd, hbs⟩ := HS.out
      have cf0 := hsd.fs.cell
      have KB := Lib.hid hsd.begin
      have K1 : Hid (∀ (V : World) (P' : Nat → Prop), Fsm w V P' d (.pointer (some ⟨b, 0, none⟩)) (callX X) (newS kk) N (OwBs kk k) kk F bf → Fmd V P' d (.pointer (some ⟨b, 0, none⟩)) (callX X) (newS kk) N (OwBs kk k) kk F bf → Calls Tryz.prog 15 #[.pointer (some ⟨bf, 0, none⟩), .int .i64 2, .int .i64 k] V fun e w' => e = .returned (.tuple #[.int .i64 (49 + (k : Int)), .int .i64 0]) ∧ ∃ P2 X2 N2 F2, Fsm w w' P2 d (.pointer (some ⟨b, 0, none⟩)) X2 (newS kk) N (OwBs kk k) kk F bf ∧ Fmd w' P2 d (.pointer (some ⟨b, 0, none⟩)) X2 (newS kk) N2 (OwBs kk (k + 1)) kk F2 bf ∧ Bes N2 F2 (k + 1)) := Lib.hid fun V P' hs hm =>
        (hbs.map (by omega) HKK.out.2 hm).mono fun e w' ⟨he, P2, X2, N2, F2, hm2, hb2, ho, hg⟩ => ⟨he, P2, X2, N2, F2, hs.next hm2.inv hm2.wi ho hg, hm2, hb2⟩
      have K2 : Hid (∀ (V : World) (P2 : Nat → Prop) (X2 : XSt) (N2 : List (List Int)) (F2 : Nat → List Int), Fsm w V P2 d (.pointer (some ⟨b, 0, none⟩)) X2 (newS kk) N (OwBs kk k) kk F bf → Fmd V P2 d (.pointer (some ⟨b, 0, none⟩)) X2 (newS kk) N2 (OwBs kk (k + 1)) kk F2 bf → Bes N2 F2 (k + 1) → Calls Tryz.prog 15 #[.pointer (some ⟨bf, 0, none⟩), .int .i64 2, .int .i64 k] V fun e w' => e = .returned (.tuple #[.int .i64 (49 + (k : Int)), .int .i64 0]) ∧ Fsm w w' P2 d (.pointer (some ⟨b, 0, none⟩)) X2 (newS kk) N (OwBs kk k) kk F bf ∧ Fmd w' P2 d (.pointer (some ⟨b, 0, none⟩)) X2 (newS kk) N2 (OwBs kk (k + 1)) kk F2 bf) := Lib.hid fun V P2 X2 N2 F2 hs hm hb =>
        (hb.again (by omega) hm).mono fun e w' ⟨he, hm2, hg⟩ => ⟨he, hs.next hm2.inv hm2.wi (Onw.refl _) hg, hm2⟩
      have KE : Hid (∀ (V : World) (P2 : Nat → Prop) (X2 : XSt) (N2 : List (List Int)) (F2 : Nat → List Int), Fsm w V P2 d (.pointer (some ⟨b, 0, none⟩)) X2 (newS kk) N (OwBs kk k) kk F bf → Fmd V P2 d (.pointer (some ⟨b, 0, none⟩)) X2 (newS kk) N2 (OwBs kk (k + 1)) kk F2 bf → Bes N2 F2 (k + 1) → Calls Tryz.prog 19 #[.pointer (some ⟨b, 0, none⟩), .bool true] V fun e w' => e = .returned (.int .i64 0) ∧ Hid (∃ P X N F, Fsd w w' P d (.pointer (some ⟨b, 0, none⟩)) X (newS kk) N (OwBs kk (k + 1)) kk F bf ∧ Bes N F (k + 1))) := Lib.hid fun V P2 X2 N2 F2 hs hm hb =>
        (hs.keep hm).mono fun e w' ⟨he, P', X', hf, _, _⟩ => ⟨he, ⟨P', X', N2, F2, hf, hb⟩⟩
      have ek : (k : Int) < 1 + (s : Int) := by omega
      clear hsd hbs HS
      by_cases h0 : k = 0
      · rw [if_pos h0]
        have e0 : ¬ (0 : Int) < (k : Int) := by omega
        have H00 := Lib.hid h0
        clear h0
        go_wp2_with (first
          | (go_at_call 14; refine KB.out.mono ?_; rintro e w6 ⟨rfl, P6, hs6, hm6, _⟩)
          | (go_at_call 15; (with_reducible refine (K1.out _ _ hs6 hm6).mono ?_); rintro e w7 ⟨rfl, P7, X7, N7, F7, hs7, hm7, hb7⟩)
          | (go_at_call 15; (with_reducible refine (K2.out _ _ _ _ _ hs7 hm7 hb7).mono ?_); rintro e w8 ⟨rfl, hs8, hm8⟩; have cf8 := hs8.fs.cell)
          | (go_at_call 19; refine (KE.out _ _ _ _ _ hs8 hm8 hb7).mono ?_; rintro e w9 ⟨rfl, HS9⟩))
        go_roundw
        case rel => exact ⟨k + 1, by omega, by go_num, by rw [if_neg (by omega)]; push_cast; congr 1; omega, HS9⟩
        case measure => simp [intOf]; omega
      · rw [if_neg h0]
        have e0 : (0 : Int) < (k : Int) := by omega
        have e1 : IntKind.i64.wrap (48 + (k : Int) + 1) = 49 + (k : Int) := by rw [IntWalk.i64_in _ (by omega)]; omega
        clear h0
        go_wp2_with (first
          | (go_at_call 14; refine KB.out.mono ?_; rintro e w6 ⟨rfl, P6, hs6, hm6, _⟩)
          | (go_at_call 15; (with_reducible refine (K1.out _ _ hs6 hm6).mono ?_); rintro e w7 ⟨rfl, P7, X7, N7, F7, hs7, hm7, hb7⟩)
          | (go_at_call 15; (with_reducible refine (K2.out _ _ _ _ _ hs7 hm7 hb7).mono ?_); rintro e w8 ⟨rfl, hs8, hm8⟩; have cf8 := hs8.fs.cell)
          | (go_at_call 19; refine (KE.out _ _ _ _ _ hs8 hm8 hb7).mono ?_; rintro e w9 ⟨rfl, HS9⟩))
        go_roundw
        case rel => exact ⟨k + 1, by omega, by go_num, by rw [if_neg (by omega)]; push_cast; congr 1; omega, HS9⟩
        case measure => simp [intOf]; omega
    · obtain rfl : k = s + 1 := by omega
      obtain ⟨P, X, N, F, hsd, hbs⟩ := HS.out
      have KP := Lib.hid (fmPieces_of hsd.rd (n := 2) (by decide) (by decide) hbs.kd)
      rw [hbs.pieces (by omega) (by omega) (hsd.pl.tab.n.get (by decide)) (hsd.pl.fi.fl 2).1] at KP
      have HBE := Lib.hid hsd.be
      have ek : ¬ ((s + 1 : Nat) : Int) < 1 + (s : Int) := by omega
      clear hsd hbs HS
      rw [if_neg (by omega)]
      go_wp2_with (go_at_call 20; refine KP.out.mono ?_; rintro e w6 ⟨rfl, hb6⟩)
      go_ret
      exact ⟨rfl, HBE.out.trans (hb6.mono HBE.out.size)⟩
end Go.Proofs.YtaakepjgpnaecaaGreat
