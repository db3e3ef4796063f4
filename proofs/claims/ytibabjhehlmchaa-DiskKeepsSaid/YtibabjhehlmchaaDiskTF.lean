/- Package disk: settle, called with the function of Flush. -/
import Derived.Test.YtibabjhehlmchaaDiskS
namespace Go.Proofs.Ytibabjhehlmchaa
open Go.RowKit
set_option linter.unusedVariables false

/-- What settle hands back. -/
def SetRF (w : World) (B bp bf bv : Nat) (F V : List (List Int)) (U : List (Nat × List Int)) (fu : Bool) (le : Int) (dn : Bool) (kp : Nat → Bool) (e : Ending) (w' : World) : Prop :=
  e = .returned (.tuple #[]) ∧ DskAt w' B bp bf bv (.slice none 0 0) (stF kp U F U.length) (stV U (stF kp U F U.length) V U.length) [] fu le dn ∧ Below B w w'

set_option maxRecDepth 100000 in
set_option maxHeartbeats 3000000 in
theorem dSettleF {w : World} {B bp bf bv : Nat} {u : Value} {F V : List (List Int)} {U : List (Nat × List Int)} {fu dn : Bool} {le : Int} (h : DskAt w B bp bf bv u F V U fu le dn) (hBw : B ≤ w.heap.size) (hUl : U.length ≤ 1000000) (kp : Nat → Bool)
    (hk : ∀ W, Frm w W bf bv → ∀ i, i < U.length → Calls Try.prog 24 #[.int .i64 i] W fun e w' => e = .returned (.bool (kp i)) ∧ ∃ m, w' = W.drewN m) :
    Calls Try.prog 23 #[.pointer (some ⟨bp, 0, none⟩), .func (.func 24) #[] #[]] w (SetRF w B bp bf bv F V U fu le dn kp) := by
  obtain ⟨ao, cap, rfl⟩ := h.shapeU
  have c2 := h.c2
  have HU : Hid (∀ x ∈ U, x.1 < V.length ∧ Blk x.2) := h.okU
  have HLen : Hid (F.length = V.length) := h.len
  have HZ := Lib.hid zB_length
  have HBw := Lib.hid hBw
  have HbB : Hid (B ≤ bp ∧ B ≤ bf ∧ B ≤ bv) := h.bB
  have hdr : ∀ (W : World) (m : Nat), Below W.heap.size W (W.drewN m) := fun W m => below_drewN' (Below.refl _ _) m
  clear hBw
  go_enter Try.func23, Try.ntmps23
  go_wp2_with fail
  have HD0 : Hid (DskAt w B bp bf bv (.slice ao U.length cap) F V U fu le dn) := h
  clear h c2
  go_loopw [13] (fun i wr => ∃ k : Nat, k ≤ U.length ∧ i = .int .i64 k ∧ Hid (DskAt wr B bp bf bv (.slice ao U.length cap) (stF kp U F k) V U fu le dn) ∧ Hid (Frm w wr bf bv))
    (fun i _ => U.length - (intOf i).toNat)
  case atStart => exact ⟨0, by omega, rfl, HD0, Frm.refl _ _ _⟩
  case round =>
    obtain ⟨k, hkn, rfl, HD, HF⟩ := hrel
    by_cases hlt : k < U.length
    · have hlt' : (k : Int) < (U.length : Int) := by omega
      obtain ⟨g, cap', hu, hgl, hr⟩ := HD.out.rangeU k hlt
      obtain ⟨rfl, rfl⟩ : ao = some ⟨g, 0, none⟩ ∧ cap' = cap := ⟨(Value.slice.inj hu).1, (Value.slice.inj hu).2.2.symm⟩
      have hx := HU.out U[k] (List.getElem_mem _)
      have hgd : U.getD k (0, []) = U[k] := by rw [List.getD_eq_getElem?_getD, List.getElem?_eq_getElem hlt]; rfl
      obtain ⟨⟨at_, data⟩, hxe⟩ : ∃ x, x = U[k] := ⟨_, rfl⟩
      rw [← hxe] at hx hr hgd
      have HX : Hid (at_ < V.length ∧ Blk data) := hx
      have HR : Hid (wr.rangeAt g (k * 257) (Value.int .i64 at_ :: cB data)) := hr
      have HG := Lib.hid hgd
      have HL : Hid ((cB data).length = 256) := by show _ = _; rw [cB_length, hx.2.1]
      have HL1 : Hid ((Value.int .i64 at_ :: cB data).length = 257) := by show _ = _; rw [List.length_cons, HL.out]
      have h1c : ∀ v ∈ (Value.int .i64 at_ :: cB data), v.oneCell' = true := cU_one (at_, data)
      obtain ⟨H1, hH1⟩ : ∃ H1, H1 = wr.heap.size := ⟨_, rfl⟩
      have hba : Below wr.heap.size wr (wr.alloc (.cells (Value.int .i64 at_ :: cB data).toArray 53)) := (Below.refl _ _).alloc (Nat.le_refl _) _
      have hra : (wr.alloc (.cells (Value.int .i64 at_ :: cB data).toArray 53)).heap[H1]? = some (.cells (Value.int .i64 at_ :: cB data).toArray 53 (0, 0)) := by rw [hH1]; exact heap_alloc_last _ _
      have HK : Hid (∀ m, Frm w ((wr.alloc (.cells (Value.int .i64 at_ :: cB data).toArray 53)).drewN m) bf bv) := fun m => (HF.out.trans (Frm.of_below hba)).trans (Frm.of_below (hdr _ m))
      have HK0 : Hid (Frm w (wr.alloc (.cells (Value.int .i64 at_ :: cB data).toArray 53)) bf bv) := HF.out.trans (Frm.of_below hba)
      have HRA := Lib.hid hra
      have HBA := Lib.hid hba
      have HH1 := Lib.hid hH1
      clear hu hr hx hgd hxe hra hba HU hH1
      cases hkp : kp k
      · have HKP := Lib.hid hkp
        go_wp2_with (first
          | (refine wpList_loadW _ rfl _ (by rfl) g (k * 257) (Value.int .i64 at_ :: cB data) (by rfl) HR.out HL1.out ?_)
          | with_reducible refine wpList_allocW _ rfl rfl ?_
          | (refine wpList_storeW _ rfl _ _ (by rfl) _ 53 (Value.int .i64 0 :: zB) (Value.int .i64 at_ :: cB data) (by rfl) (by rfl) (heap_alloc_last _ _) (by rw [List.length_cons, HZ.out]) HL1.out h1c ?_
             rw [World.setRow_alloc_new])
          | (go_at_call 24; refine (hk _ HK0.out k hlt).mono ?_; rintro e w2 ⟨rfl, m, rfl⟩; rw [HKP.out]))
        go_roundw
        case rel => exact ⟨k + 1, by omega, by go_num, (by
          show DskAt _ B bp bf bv _ (stF kp U F (k + 1)) V U fu le dn
          rw [stF, if_neg (by rw [HKP.out]; decide)]
          exact HD.out.below (HBA.out.trans ((hdr _ m).mono HBA.out.size))), HK.out m⟩
        case measure => simp [intOf]; omega
      · have HKP := Lib.hid hkp
        go_wp2_with (first
          | (refine wpList_loadW _ rfl _ (by rfl) g (k * 257) (Value.int .i64 at_ :: cB data) (by rfl) HR.out HL1.out ?_)
          | with_reducible refine wpList_allocW _ rfl rfl ?_
          | (refine wpList_storeW _ rfl _ _ (by rfl) _ 53 (Value.int .i64 0 :: zB) (Value.int .i64 at_ :: cB data) (by rfl) (by rfl) (heap_alloc_last _ _) (by rw [List.length_cons, HZ.out]) HL1.out h1c ?_
             rw [World.setRow_alloc_new])
          | (go_at_call 24; refine (hk _ HK0.out k hlt).mono ?_; rintro e w2 ⟨rfl, m, rfl⟩; rw [HKP.out]))
        obtain ⟨W1, hW1⟩ : ∃ W1, W1 = (wr.alloc (.cells (Value.int .i64 at_ :: cB data).toArray 53)).drewN m := ⟨_, rfl⟩
        have hb1 : Below wr.heap.size wr W1 := by rw [hW1]; exact HBA.out.trans ((hdr _ m).mono HBA.out.size)
        have hf1 : Frm w W1 bf bv := by rw [hW1]; exact HK.out m
        have hr1 : W1.heap[H1]? = some (.cells (Value.int .i64 at_ :: cB data).toArray 53 (0, 0)) := by rw [hW1]; exact HRA.out
        rw [← hW1, ← HH1.out]
        clear hW1
        have hD1 := HD.out.below hb1
        have hlt1 : bp < H1 ∧ bf < H1 ∧ bv < H1 := by
          have e1 := (Array.getElem?_eq_some_iff.1 HD.out.hp).1
          have e2 := (Array.getElem?_eq_some_iff.1 HD.out.hf).1
          have e3 := (Array.getElem?_eq_some_iff.1 HD.out.hv).1
          have := HH1.out
          omega
        have hne := HD.out.ne
        have hln : (stF kp U F k).length = F.length := stF_length _ _ _ _
        have haF : at_ < (stF kp U F k).length := by rw [hln, HLen.out]; exact HX.out.1
        obtain ⟨NF, hNF⟩ : ∃ NF, NF = (stF kp U F k).length := ⟨_, rfl⟩
        have c0 := hD1.c0
        rw [← hNF] at c0 haF
        have haF' : (at_ : Int) < (NF : Int) := by omega
        have r0 : W1.cell? ⟨H1, 0, none⟩ = some (.int .i64 at_) := by rw [cell_of_row _ _ _ _ _ _ hr1]; rfl
        have rL : W1.rangeAt H1 1 (cB data) := range_row hr1 (by simp)
        have tF : W1.there bf (at_ * 256) (cB data).length := there_row hD1.hf (by rw [HL.out, flat_length (flatB_len hD1.okF)]; omega)
        have hone2 := cB_one data
        have hub := Try.underlying50
        have hib : (Try.prog.info? 50).map (·.size) = some (cB data).length := by rw [sizeB, HL.out]
        have hlen := HL.out
        obtain ⟨hD2, hwr2⟩ := HD.out.setF (W := W1.drew) (hb1.drew) at_ (by rw [← hNF]; exact haF) data HX.out.2
        have hf2 := (hf1.trans (Frm.of_below (hdr W1 1))).trans (Frm.of_wrote (g2 := bv) hwr2)
        have HD2 := Lib.hid hD2
        have HF2 := Lib.hid hf2
        have HW2 := Lib.hid hwr2
        have hS1 : W1.drew.cell? ⟨bp, 0, none⟩ = some (.slice (some ⟨bf, 0, none⟩) NF NF) ∧ W1.drew.cell? ⟨H1, 0, none⟩ = some (.int .i64 at_) ∧ W1.drew.rangeAt H1 1 (cB data) ∧ W1.drew.there bf (at_ * 256) (cB data).length := ⟨c0, r0, rL, tF⟩
        have hS2 : (W1.drew.setCells bf (at_ * 256) (cB data)).cell? ⟨bp, 0, none⟩ = some (.slice (some ⟨bf, 0, none⟩) NF NF) ∧ (W1.drew.setCells bf (at_ * 256) (cB data)).cell? ⟨H1, 0, none⟩ = some (.int .i64 at_) ∧ (W1.drew.setCells bf (at_ * 256) (cB data)).rangeAt H1 1 (cB data) ∧ (W1.drew.setCells bf (at_ * 256) (cB data)).there bf (at_ * 256) (cB data).length :=
          ⟨by rw [World.cell?_setCells_out _ _ _ _ _ (fun e => absurd e hne.1)]; exact c0, by rw [World.cell?_setCells_out _ _ _ _ _ (fun e => by have e : H1 = bf := e; omega)]; exact r0, World.rangeAt_setCells_apart hS1.2.2.1 _ _ _ (.inl (by omega)), World.there_setCells hS1.2.2.2 _ _ _⟩
        clear hD1 hb1 hf1 hr1 c0 r0 rL tF hD2 hwr2 hf2 hln hNF
        go_region_held (fun W => W.cell? ⟨bp, 0, none⟩ = some (.slice (some ⟨bf, 0, none⟩) NF NF) ∧ W.cell? ⟨H1, 0, none⟩ = some (.int .i64 at_) ∧ W.rangeAt H1 1 (cB data) ∧ W.there bf (at_ * 256) (cB data).length) (first | exact hS1 | exact hS2) (fail)
        clear hS1 hS2
        go_wp2_with fail
        go_roundw
        case rel => exact ⟨k + 1, by omega, by go_num, (by
          show DskAt _ B bp bf bv _ (stF kp U F (k + 1)) V U fu le dn
          rw [stF, if_pos HKP.out, HG.out]
          exact HD2.out), HF2.out⟩
        case measure => simp [intOf]; omega
    · obtain rfl : k = U.length := by omega
      have hge : ¬ (U.length : Int) < (U.length : Int) := by omega
      have c2 := HD.out.c2
      go_wp2_with fail
      obtain ⟨F1, hF1⟩ : ∃ F1, F1 = stF kp U F U.length := ⟨_, rfl⟩
      have HF1 := Lib.hid hF1
      have HDa : Hid (DskAt wr B bp bf bv (.slice ao U.length cap) F1 V U fu le dn) := by rw [hF1]; exact HD
      clear HD HD0 c2 hF1 hk hge hkn hlt
      go_loopw [36] (fun i wq => ∃ k : Nat, k ≤ U.length ∧ i = .int .i64 k ∧ Hid (DskAt wq B bp bf bv (.slice ao U.length cap) F1 (stV U F1 V k) U fu le dn) ∧ Hid (Frm w wq bf bv))
        (fun i _ => U.length - (intOf i).toNat)
      case atStart => exact ⟨0, by omega, rfl, HDa, HF⟩
      case round =>
        clear HDa HF
        obtain ⟨k, hkn, rfl, HD, HF⟩ := hrel
        by_cases hlt : k < U.length
        · have hlt' : (k : Int) < (U.length : Int) := by omega
          obtain ⟨g, cap', hu, hgl, hr⟩ := HD.out.rangeU k hlt
          obtain ⟨rfl, rfl⟩ : ao = some ⟨g, 0, none⟩ ∧ cap' = cap := ⟨(Value.slice.inj hu).1, (Value.slice.inj hu).2.2.symm⟩
          have hx := HU.out U[k] (List.getElem_mem _)
          have hgd : U.getD k (0, []) = U[k] := by rw [List.getD_eq_getElem?_getD, List.getElem?_eq_getElem hlt]; rfl
          obtain ⟨⟨at_, data⟩, hxe⟩ : ∃ x, x = U[k] := ⟨_, rfl⟩
          rw [← hxe] at hx hr hgd
          have hlenFV : F1.length = V.length := by have := HD.out.len; rw [stV_length] at this; exact this
          have haF : at_ < F1.length := by rw [hlenFV]; exact hx.1
          have hb : Blk F1[at_] := HD.out.okF _ (List.getElem_mem _)
          have hgF : F1.getD at_ [] = F1[at_] := by rw [List.getD_eq_getElem?_getD, List.getElem?_eq_getElem haF]; rfl
          have hmem := range_row HD.out.hf (o := at_ * 256) (vs := cB F1[at_]) (by rw [cB_length, hb.1]; exact flat_get (flatB_len HD.out.okF) at_ haF)
          obtain ⟨b, hbe⟩ : ∃ b, b = F1[at_] := ⟨_, rfl⟩
          rw [← hbe] at hb hgF hmem
          have HX : Hid (at_ < V.length ∧ Blk data) := hx
          have HR : Hid (wr.rangeAt g (k * 257) (Value.int .i64 at_ :: cB data)) := hr
          have HG := Lib.hid hgd
          have HB := Lib.hid hb
          have HGF := Lib.hid hgF
          have HMEM := Lib.hid hmem
          have HL : Hid ((cB b).length = 256) := by show _ = _; rw [cB_length, hb.1]
          have HL1 : Hid ((Value.int .i64 at_ :: cB data).length = 257) := by show _ = _; rw [List.length_cons, cB_length, hx.2.1]
          have h1c : ∀ v ∈ (Value.int .i64 at_ :: cB data), v.oneCell' = true := cU_one (at_, data)
          obtain ⟨H1, hH1⟩ : ∃ H1, H1 = wr.heap.size := ⟨_, rfl⟩
          obtain ⟨W1, hW1⟩ : ∃ W1, W1 = wr.alloc (.cells (Value.int .i64 at_ :: cB data).toArray 53) := ⟨_, rfl⟩
          have hb1 : Below wr.heap.size wr W1 := by rw [hW1]; exact (Below.refl _ _).alloc (Nat.le_refl _) _
          have hr1 : W1.heap[H1]? = some (.cells (Value.int .i64 at_ :: cB data).toArray 53 (0, 0)) := by rw [hW1, hH1]; exact heap_alloc_last _ _
          have hf1 := HF.out.trans (Frm.of_below hb1)
          have HW1 := Lib.hid hW1
          have HH1 := Lib.hid hH1
          clear hu hr hx hgd hxe hH1 hW1 hb hgF hmem hbe
          go_wp2_with (first
            | (refine wpList_loadW _ rfl _ (by rfl) g (k * 257) (Value.int .i64 at_ :: cB data) (by rfl) HR.out HL1.out ?_)
            | with_reducible refine wpList_allocW _ rfl rfl ?_
            | (refine wpList_storeW _ rfl _ _ (by rfl) _ 53 (Value.int .i64 0 :: zB) (Value.int .i64 at_ :: cB data) (by rfl) (by rfl) (heap_alloc_last _ _) (by rw [List.length_cons, HZ.out]) HL1.out h1c ?_
               rw [World.setRow_alloc_new]))
          rw [← HW1.out, ← HH1.out]
          have hD1 := HD.out.below hb1
          have hlt1 : bp < H1 ∧ bf < H1 ∧ bv < H1 := by
            have e1 := (Array.getElem?_eq_some_iff.1 HD.out.hp).1
            have e2 := (Array.getElem?_eq_some_iff.1 HD.out.hf).1
            have e3 := (Array.getElem?_eq_some_iff.1 HD.out.hv).1
            have := HH1.out
            omega
          have hne := HD.out.ne
          have haV : at_ < (stV U F1 V k).length := by rw [stV_length]; exact HX.out.1
          obtain ⟨NF, hNF⟩ : ∃ NF, NF = F1.length := ⟨_, rfl⟩
          obtain ⟨NV, hNV⟩ : ∃ NV, NV = (stV U F1 V k).length := ⟨_, rfl⟩
          have c0 := hD1.c0
          have c1 := hD1.c1
          rw [← hNF] at c0 haF
          rw [← hNV] at c1 haV
          have haF' : (at_ : Int) < (NF : Int) := by omega
          have haV' : (at_ : Int) < (NV : Int) := by omega
          have r0 : W1.cell? ⟨H1, 0, none⟩ = some (.int .i64 at_) := by rw [cell_of_row _ _ _ _ _ _ hr1]; rfl
          have rF : W1.rangeAt bf (at_ * 256) (cB b) := by
            have := HMEM.out
            intro j v hj
            rw [hb1.cell (p := ⟨bf, at_ * 256 + j, none⟩) (by have := HH1.out; show bf < _; omega)]
            exact this j v hj
          have tV : W1.there bv (at_ * 256) (cB b).length := there_row hD1.hv (by rw [HL.out, flat_length (flatB_len hD1.okV)]; omega)
          have hone2 := cB_one b
          have hub := Try.underlying50
          have hib : (Try.prog.info? 50).map (·.size) = some (cB b).length := by rw [sizeB, HL.out]
          have hlen := HL.out
          obtain ⟨hD2, hwr2⟩ := HD.out.setV (W := W1.drew) (hb1.drew) at_ (by rw [← hNV]; exact haV) b HB.out
          have hf2 := (hf1.trans (Frm.of_below (hdr W1 1))).trans (Frm.of_wrote2 (g1 := bf) hwr2)
          have HD2 := Lib.hid hD2
          have HF2 := Lib.hid hf2
          have hS1 : W1.drew.cell? ⟨bp, 0, none⟩ = some (.slice (some ⟨bf, 0, none⟩) NF NF) ∧ W1.drew.cell? ⟨bp, 1, none⟩ = some (.slice (some ⟨bv, 0, none⟩) NV NV) ∧ W1.drew.cell? ⟨H1, 0, none⟩ = some (.int .i64 at_) ∧ W1.drew.rangeAt bf (at_ * 256) (cB b) ∧ W1.drew.there bv (at_ * 256) (cB b).length := ⟨c0, c1, r0, rF, tV⟩
          have hS2 : (W1.drew.setCells bv (at_ * 256) (cB b)).cell? ⟨bp, 0, none⟩ = some (.slice (some ⟨bf, 0, none⟩) NF NF) ∧ (W1.drew.setCells bv (at_ * 256) (cB b)).cell? ⟨bp, 1, none⟩ = some (.slice (some ⟨bv, 0, none⟩) NV NV) ∧ (W1.drew.setCells bv (at_ * 256) (cB b)).cell? ⟨H1, 0, none⟩ = some (.int .i64 at_) ∧ (W1.drew.setCells bv (at_ * 256) (cB b)).rangeAt bf (at_ * 256) (cB b) ∧ (W1.drew.setCells bv (at_ * 256) (cB b)).there bv (at_ * 256) (cB b).length :=
            ⟨by rw [World.cell?_setCells_out _ _ _ _ _ (fun e => absurd e hne.2.1)]; exact c0, by rw [World.cell?_setCells_out _ _ _ _ _ (fun e => absurd e hne.2.1)]; exact c1, by rw [World.cell?_setCells_out _ _ _ _ _ (fun e => by have e : H1 = bv := e; omega)]; exact r0, World.rangeAt_setCells_apart hS1.2.2.2.1 _ _ _ (.inl hne.2.2), World.there_setCells hS1.2.2.2.2 _ _ _⟩
          clear hD1 hb1 hf1 hr1 c0 c1 r0 rF tV hD2 hwr2 hf2 hNF hNV hlenFV HU
          go_region_held (fun W => W.cell? ⟨bp, 0, none⟩ = some (.slice (some ⟨bf, 0, none⟩) NF NF) ∧ W.cell? ⟨bp, 1, none⟩ = some (.slice (some ⟨bv, 0, none⟩) NV NV) ∧ W.cell? ⟨H1, 0, none⟩ = some (.int .i64 at_) ∧ W.rangeAt bf (at_ * 256) (cB b) ∧ W.there bv (at_ * 256) (cB b).length) (first | exact hS1 | exact hS2) (fail)
          clear hS1 hS2
          go_wp2_with fail
          go_roundw
          case rel => exact ⟨k + 1, by omega, by go_num, (by
            show DskAt _ B bp bf bv _ F1 (stV U F1 V (k + 1)) U fu le dn
            rw [stV, HG.out, HGF.out]
            exact HD2.out), HF2.out⟩
          case measure => simp [intOf]; omega
        · obtain rfl : k = U.length := by omega
          have hge : ¬ (U.length : Int) < (U.length : Int) := by omega
          have c2 := HD.out.c2
          have f2 := HD.out.fr 2
          go_wp2_with fail
          go_end0
          refine ⟨rfl, ?_, (HF.out.below HbB.out.2.1 HbB.out.2.2 HBw.out).trans ((Below.refl _ _).setCell HbB.out.1 _)⟩
          rw [← HF1.out]
          exact HD.out.noU
end Go.Proofs.Ytibabjhehlmchaa
