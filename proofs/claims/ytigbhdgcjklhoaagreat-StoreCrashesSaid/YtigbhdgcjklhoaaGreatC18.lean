/- The law's again: a disk opened behind a crash, and behind crashes within Open (over the bundle). -/
import Derived.Test.YtigbhdgcjklhoaaGreatC17
namespace Go.Proofs.YtigbhdgcjklhoaaGreat
set_option maxRecDepth 100000
open Go.RowKit
set_option linter.unusedVariables false

theorem Chg.sub {P P' Q : Nat → Prop} {w w' : World} (h : Chg P P' w w') (k : ∀ x, Q x → P' x) : Chg P Q w w' := ⟨h.os, h.tape, h.output, h.size, fun x hx hn => ⟨(h.keep x hx hn).1, fun e => (h.keep x hx hn).2 (k x e)⟩⟩
/-- A disk behind a crash: Recover will find G. -/
def Fresh (w : World) (Q : Nat → Prop) (d : Value) (n : Nat) (G : List (List Int)) (ds : DS) : Prop := Dk w Q d ds ∧ ds.U = [] ∧ ds.dn = false ∧ ds.fu = false ∧ Jst n ds.F G
/-- A disk of which each crash finds G. -/
def Found (w : World) (Q : Nat → Prop) (d : Value) (n : Nat) (G : List (List Int)) (ds : DS) : Prop := Dk w Q d ds ∧ ds.U.length ≤ 1000 ∧ ∀ k, Jst n (ds.crash k).F G
section
variable {Inv : World → (Nat → Prop) → Value → Value → XSt → Prop} {Dead : World → (Nat → Prop) → Value → Value → DS → Prop} (S : Sto Inv Dead)
include S
theorem Sto.opens1 {w : World} {Q : Nat → Prop} {d : Value} {n : Nat} {G : List (List Int)} {ds : DS} (h : Dk w Q d ds) (h64 : 64 ≤ n) (h2k : n ≤ 768) (hU : ds.U = []) (hd : ds.dn = false) (hJ : Jst n ds.F G) :
    Calls Tryz.prog 6 #[d] w fun e w' => ∃ p1 z, e = .returned (.tuple #[p1, .int .i64 z]) ∧ ∃ Q' ds2, Found w' Q' d n G ds2 ∧ Chg Q Q' w w' := by
  refine (S.opens h h64 h2k hU hd hJ).mono ?_
  rintro e w' (⟨p, ds', P', rfl, _, hI, hc⟩ | ⟨_, rfl, ds', P', hk, hc, hD⟩)
  · obtain ⟨Pd, hs, hk⟩ := S.disk hI
    have hok := S.plain hI
    have hl := hok.lst
    have hg : G.length = n := hJ.2.1
    rw [show (XSt.is ⟨G, G, [], [], false, 0, ds'⟩).length = n from hg] at hl
    exact ⟨_, _, rfl, Pd, ds', ⟨hk, hok.un, fun k => hl.crash (by omega) (kpOf k)⟩, hc.sub hs⟩
  · refine ⟨_, _, rfl, P', ds', ⟨hk, hD.1, fun k => ?_⟩, hc⟩
    obtain ⟨G', hG, hJ'⟩ := hD.2.2 k
    obtain rfl := List.mem_singleton.1 hG
    exact hJ'
set_option maxHeartbeats 2000000 in
theorem again11_of {w : World} {P : Nat → Prop} {d v : Value} {n : Nat} {G : List (List Int)} {ds : DS} {kl : List Bool} (h : Dk w P d ds ∧ ds.U.length ≤ 1000 ∧ Jst n (ds.crash kl).F G) (h64 : 64 ≤ n) (h2k : n ≤ 768) (hk : KSl w v kl) (ha : Apt P v) (t : Nat) (ht : t ≤ 1000) :
    Calls Tryz.prog 13 #[d, v, .int .i64 t] w fun e w' => ∃ p P' ds', e = .returned p ∧ Inv w' P' d p ⟨G, G, [], [], false, 0, ds'⟩ ∧ ds'.fu = false ∧ Chg P P' w w' := by
  obtain ⟨hdk, hU, hJ⟩ := h
  have KC := Lib.hid (fun (W : World) (Q : Nat → Prop) (ds1 : DS) (h1 : Dk W Q d ds1) (hu : ds1.U.length ≤ 1000) (hc : Chg P Q w W) => kCrash h1 (Nat.le_trans hu (by decide)) (hk.chg ha hc).1 (hk.chg ha hc).2)
  have KF := Lib.hid (fun (W : World) (Q : Nat → Prop) (ds1 : DS) (h1 : Dk W Q d ds1) (m : Nat) (hm : m ≤ 1000) => kSetFuse h1 (m : Int) (by omega))
  have KO := Lib.hid (fun (W : World) (Q : Nat → Prop) (ds1 : DS) (h1 : Dk W Q d ds1) (a : ds1.U = []) (b : ds1.dn = false) (c : Jst n ds1.F G) => S.opens1 h1 h64 h2k a b c)
  have KL := Lib.hid (fun (W : World) (Q : Nat → Prop) (ds1 : DS) (h1 : Dk W Q d ds1) (a : ds1.U = []) (b : ds1.dn = false) (hf : ds1.fu = false) (c : Jst n ds1.F G) => show Calls Tryz.prog 6 #[d] W fun e w' => ∃ b ds' P', e = .returned (.tuple #[.pointer (some ⟨b, 0, none⟩), .int .i64 0]) ∧ Hid (Inv w' P' d (.pointer (some ⟨b, 0, none⟩)) ⟨G, G, [], [], false, 0, ds'⟩ ∧ ds'.fu = false ∧ Chg Q P' W w') from by
    refine (S.opens h1 h64 h2k a b c).mono ?_
    rintro e w' (⟨p, ds', P', rfl, hf', hI, hc⟩ | ⟨hx, _⟩)
    · obtain ⟨pb, rfl⟩ := S.ptr hI
      exact ⟨pb, ds', P', rfl, Lib.hid ⟨hI, hf'.trans hf, hc⟩⟩
    · rw [hf] at hx; cases hx)
  have KC0 := Lib.hid (KC.out w P ds hdk hU (Chg.refl _ _))
  have HJ := Lib.hid hJ
  have HJ2 := Lib.hid (fun (ds1 : DS) (m : Nat) (hj : Jst n ds1.F G) => show Jst n (ds1.fuse (m : Int)).F G from hj)
  obtain ⟨db, rfl⟩ := hdk.ptr
  obtain ⟨vo, vc, rfl⟩ := hk.shape
  obtain ⟨kn, hkn⟩ : ∃ kn, kn = kl.length := ⟨_, rfl⟩
  rw [← hkn] at KC KC0 ⊢
  clear hdk hU hJ hk ha hkn
  go_enter Tryz.func13, Tryz.ntmps13
  go_wp2_with (first
    | (go_at_call 28; (with_reducible refine KC0.out.mono ?_); rintro e w1 ⟨rfl, Q1, hk1, hc1⟩
       have HS0 : Hid (∃ Q ds1, Fresh w1 Q (.pointer (some ⟨db, 0, none⟩)) n G ds1 ∧ Chg P Q w w1) := Lib.hid ⟨Q1, _, ⟨hk1, rfl, rfl, rfl, HJ.out⟩, hc1⟩
       clear hk1 hc1))
  go_loopw [14] (fun i wr => ∃ k : Nat, k ≤ t ∧ i = .int .i64 k ∧ Hid (∃ Q ds1, Fresh wr Q (.pointer (some ⟨db, 0, none⟩)) n G ds1 ∧ Chg P Q w wr)) (fun i _ => t - (intOf i).toNat)
  case atStart => exact ⟨0, by omega, rfl, HS0⟩
  case round =>
    obtain ⟨k, hk, rfl, HI⟩ := hrel
    clear HS0
    obtain ⟨Q, ds1, ⟨h1, h2, h3, h4, h5⟩, hcQ⟩ := HI.out
    by_cases hlt : k < t
    · have ek : (k : Int) < (t : Int) := by omega
      have KF1 := Lib.hid (KF.out wr Q ds1 h1 k (by omega))
      have HCQ := Lib.hid hcQ
      have H2 := Lib.hid h2
      have H3 := Lib.hid h3
      have H5 := Lib.hid h5
      clear h1 h2 h3 h4 h5 hcQ
      go_wp2_with (first
        | (go_at_call 7; (with_reducible refine KF1.out.mono ?_); rintro e w2 ⟨rfl, hk2, hc2⟩
           have KO2 := Lib.hid (KO.out w2 Q _ hk2 H2.out H3.out H5.out)
           have HC2 := Lib.hid (HCQ.out.trans hc2)
           clear hk2 hc2)
        | (go_at_call 6; (with_reducible refine KO2.out.mono ?_); rintro e w3 ⟨p1, z, rfl, Q3, ds3, ⟨hk3, hu3, hj3⟩, hc3⟩
           have HC3 := Lib.hid (HC2.out.trans hc3)
           have KC3 := Lib.hid (KC.out w3 Q3 ds3 hk3 hu3 HC3.out)
           have HJ3 := Lib.hid hj3
           clear hk3 hu3 hj3 hc3)
        | (go_at_call 28; (with_reducible refine KC3.out.mono ?_); rintro e w4 ⟨rfl, Q4, hk4, hc4⟩
           have HI4 : Hid (∃ Q ds1, Fresh w4 Q (.pointer (some ⟨db, 0, none⟩)) n G ds1 ∧ Chg P Q w w4) := Lib.hid ⟨Q4, _, ⟨hk4, rfl, rfl, rfl, HJ3.out kl⟩, HC3.out.trans hc4⟩
           clear hk4 hc4))
      go_roundw
      case rel => exact ⟨k + 1, by omega, by go_num, HI4.out⟩
      case measure => simp [intOf]; omega
    · obtain rfl : k = t := by omega
      have KL1 := Lib.hid (KL.out wr Q ds1 h1 h2 h3 h4 h5)
      have HCQ := Lib.hid hcQ
      clear h1 h2 h3 h4 h5 hcQ
      go_wp2_with (first
        | (go_at_call 6; (with_reducible refine KL1.out.mono ?_); rintro e w5 ⟨pb, ds5, P5, rfl, HF5⟩))
      go_ret
      obtain ⟨x1, x2, x3⟩ := HF5.out
      exact ⟨_, P5, ds5, rfl, x1, x2, HCQ.out.trans x3⟩
end
end Go.Proofs.YtigbhdgcjklhoaaGreat

