/- The law's sameDesc: a descriptor of the code and one of the reference that are the same are told to be so. -/
import Derived.Test.YtflkggoknmgbnaaGrpF
import Derived.Test.YtflkggoknmgbnaaGrpC
import Derived.Laws.BytesArg
import Derived.BigQuiet
import Derived.Deep.RegionHeld
namespace Go.Proofs.Ytflkggoknmgbnaa
open Go.RowKit BM
set_option linter.unusedVariables false

theorem bBytes_d {w0 w : World} {p r : Nat} {L : List Bool} (h : BRow w0 p r L) (hb : Below w0.heap.size w0 w) :
    Calls Try.prog 29 #[.pointer (some ⟨p, 0, none⟩)] w fun e w' => ∃ v, e = .returned v ∧ (∀ W, Below w'.heap.size w' W → (convert 23 9 v).run Try.prog W = .ok (.string (strOfNums (bytesB L))) W) ∧ Below w.heap.size w w' ∧ Below w0.heap.size w0 w' :=
  (bBytes_any (h.below hb h.lt.1 h.lt.2) (bytesB L) (rep_bytesB L)).mono fun _ _ ⟨v, he, hs, hb2⟩ => ⟨v, he, conv_later hs, hb2, hb.trans (hb2.mono hb.size)⟩
theorem rBytes_d {w0 w : World} {q : Nat} {v : Value} {L : List Bool} (hk : KSl w0 v L) (hb : Below w0.heap.size w0 w) (hn : L.length ≤ 4096) (hq : w.heap[q]? = some (.cells #[v] 64 (0, 0))) :
    Calls Try.prog 35 #[.pointer (some ⟨q, 0, none⟩)] w fun e w' => ∃ v, e = .returned v ∧ (∀ W, Below w'.heap.size w' W → (convert 23 9 v).run Try.prog W = .ok (.string (strOfNums (bytesB L))) W) ∧ Below w.heap.size w w' ∧ Below w0.heap.size w0 w' :=
  (rBytes_k (by rw [cell_of_row _ _ _ _ _ _ hq]; rfl) (Array.getElem?_eq_some_iff.1 hq).1 (hk.below hb) hn (bytesB L) (rep_bytesB L)).mono fun _ _ ⟨v, he, hs, hb2⟩ => ⟨v, he, conv_later hs, hb2, hb.trans (hb2.mono hb.size)⟩

set_option maxHeartbeats 6000000 in
theorem sameD6_eq {w : World} {p r : Nat} {L : List Bool} (g : Int) (h : BRow w p r L) {v : Value} (hk : KSl w v L) :
    Calls Try.prog 11 #[.agg #[.int .i64 g, .pointer (some ⟨p, 0, none⟩)], .agg #[.int .i64 g, v]] w fun e w' => e = .returned (.bool true) ∧ Below w.heap.size w w' := by
  have hn := h.1
  obtain ⟨ao, cap, rfl⟩ := hk.shape
  obtain ⟨n, hnn⟩ : ∃ n, n = L.length := ⟨_, rfl⟩
  rw [← hnn] at hk ⊢
  have hb1 : Below w.heap.size w ((w.alloc (.cells #[.int .i64 g, .pointer (some ⟨p, 0, none⟩)] 30)).alloc (.cells #[.int .i64 g, .slice ao n cap] 34)) := ((Below.refl _ _).alloc (Nat.le_refl _) _).alloc (by simp) _
  have hd := heap_alloc2_old w (.cells #[.int .i64 g, .pointer (some ⟨p, 0, none⟩)] 30) (.cells #[.int .i64 g, .slice ao n cap] 34)
  have he := heap_alloc2_new w (.cells #[.int .i64 g, .pointer (some ⟨p, 0, none⟩)] 30) (.cells #[.int .i64 g, .slice ao n cap] 34)
  obtain ⟨u, hu⟩ : ∃ u, u = (w.alloc (.cells #[.int .i64 g, .pointer (some ⟨p, 0, none⟩)] 30)).alloc (.cells #[.int .i64 g, .slice ao n cap] 34) := ⟨_, rfl⟩
  rw [← hu] at hb1 hd he
  have HN := Lib.hid hnn
  have HROW := Lib.hid (h.below hb1 h.lt.1 h.lt.2)
  have HK := Lib.hid (hk.below hb1)
  have HLEN : Hid (∀ m, Calls Try.prog 25 #[.pointer (some ⟨p, 0, none⟩)] (u.drewN m) fun e w' => e = .returned (.int .i64 n) ∧ u.drewN m = w') := Lib.hid (fun m => by have := bLen_row (HROW.out.drewN m); rw [← hnn] at this; exact this)
  clear h hk hnn hn
  go_enter Try.func11, Try.ntmps11
  go_wp2
  rw [← hu]
  obtain ⟨d, hdd⟩ : ∃ d, d = w.heap.size := ⟨_, rfl⟩
  rw [← hdd] at hd he ⊢
  have d0 : u.cell? ⟨d, 0, none⟩ = some (.int .i64 g) := by rw [cell_of_row _ _ _ _ _ _ hd]; rfl
  have d1 : u.cell? ⟨d, 1, none⟩ = some (.pointer (some ⟨p, 0, none⟩)) := by rw [cell_of_row _ _ _ _ _ _ hd]; rfl
  have e0 : u.cell? ⟨d + 1, 0, none⟩ = some (.int .i64 g) := by rw [cell_of_row _ _ _ _ _ _ he]; rfl
  have e1 : u.cell? ⟨d + 1, 1, none⟩ = some (.slice ao n cap) := by rw [cell_of_row _ _ _ _ _ _ he]; rfl
  clear hu hd he
  have hbd := Lib.hid hb1
  clear hdd hb1
  go_quiet ((go_at_call 25; refine quiet_back (HLEN.out _)))
  go_wp2
  have HROW2 := Lib.hid (HROW.out.drewN nq)
  have HK2 : Hid (KSl (u.drewN nq) (.slice ao n cap) L) := Lib.hid HK.out
  have hbd2 := Lib.hid (below_drewN' hbd.out nq)
  have d1' : (u.drewN nq).cell? ⟨d, 1, none⟩ = some (.pointer (some ⟨p, 0, none⟩)) := d1
  have e1' : (u.drewN nq).cell? ⟨d + 1, 1, none⟩ = some (.slice ao n cap) := e1
  clear HLEN HROW HK hbd d0 e0 d1 e1
  generalize u.drewN nq = u2 at HROW2 HK2 hbd2 d1' e1' ⊢
  have hdl : d < u2.heap.size := World.block_lt_of_cell? _ _ d1'
  have hel : d + 1 < u2.heap.size := World.block_lt_of_cell? _ _ e1'
  have SK := Lib.hid (fun W (hb : Below u2.heap.size u2 W) => And.intro ((hb.cell (p := ⟨d, 1, none⟩) hdl).trans d1') ((hb.cell (p := ⟨d + 1, 1, none⟩) hel).trans e1'))
  have b0 : Below u2.heap.size u2 u2.drew := (Below.refl _ _).drew
  have b1 : Below u2.heap.size u2 (u2.alloc (.cells #[.slice ao n cap] 64)).drew := (below_box _ _).drew
  have hrefl : ∀ W : World, Below W.heap.size W W := fun W => Below.refl _ _
  have hboxA : ∀ (W : World) (o : Obj), Below W.heap.size W (W.alloc o) := below_box
  have hn4 : L.length ≤ 4096 := HROW2.out.1
  have HN4 := Lib.hid hn4
  obtain ⟨y1, y2⟩ := SK.out _ b0
  clear hn4 d1' e1' HN
  go_region_held (fun W => W.cell? ⟨d, 1, none⟩ = some (.pointer (some ⟨p, 0, none⟩)) ∧ W.cell? ⟨d + 1, 1, none⟩ = some (.slice ao n cap)) (exact SK.out _ (by first | assumption | exact Below.trans (by assumption) (Below.mono (below_box _ _) (Below.size (by assumption))))) (first
    | (go_at_call 29; refine (bBytes_d HROW2.out (by assumption)).mono ?_; rintro e w2 ⟨v1, rfl, hv1, hb2, hu2⟩)
    | (go_at_call 35; refine (rBytes_d HK2.out (by first | exact hu2 | exact hu2.trans ((below_box _ _).mono hu2.size)) HN4.out (by first | exact below_hold (w := (u2.alloc (.cells #[.slice ao n cap] 64)).drew) (heap_alloc_new u2 _) hb2 | exact heap_alloc_new w2 _)).mono ?_; rintro e w3 ⟨v3, rfl, hv3, hb3, hu3⟩; have hb23 : Below w2.heap.size w2 w3 := (by first | exact hb3 | exact (below_box _ _).trans (hb3.mono (below_box w2 _).size))))
  all_goals go_wp2_with fail
  all_goals go_ret
  all_goals exact ⟨rfl, hbd2.out.trans (hu3.mono hbd2.out.size)⟩

theorem bBytes_nil (w : World) : Calls Try.prog 29 #[.pointer none] w fun e w' => e = .returned (.slice none 0 0) ∧ w = w' := by
  go_enter Try.func29, Try.ntmps29
  go_wp2
  go_ret
  exact ⟨rfl, rfl⟩
theorem bytesB_nil : bytesB [] = [] := rfl
set_option maxHeartbeats 6000000 in
theorem sameD6_zero (w : World) (g : Int) :
    Calls Try.prog 11 #[.agg #[.int .i64 g, .pointer none], .agg #[.int .i64 g, .slice none 0 0]] w fun e w' => e = .returned (.bool true) ∧ Below w.heap.size w w' := by
  have hb1 : Below w.heap.size w ((w.alloc (.cells #[.int .i64 g, .pointer none] 30)).alloc (.cells #[.int .i64 g, .slice none 0 0] 34)) := ((Below.refl _ _).alloc (Nat.le_refl _) _).alloc (by simp) _
  have hd := heap_alloc2_old w (.cells #[.int .i64 g, .pointer none] 30) (.cells #[.int .i64 g, .slice none 0 0] 34)
  have he := heap_alloc2_new w (.cells #[.int .i64 g, .pointer none] 30) (.cells #[.int .i64 g, .slice none 0 0] 34)
  obtain ⟨u, hu⟩ : ∃ u, u = (w.alloc (.cells #[.int .i64 g, .pointer none] 30)).alloc (.cells #[.int .i64 g, .slice none 0 0] 34) := ⟨_, rfl⟩
  rw [← hu] at hb1 hd he
  have HLEN : Hid (∀ m, Calls Try.prog 25 #[.pointer none] (u.drewN m) fun e w' => e = .returned (.int .i64 0) ∧ u.drewN m = w') := Lib.hid (fun m => bLen_nil _)
  go_enter Try.func11, Try.ntmps11
  go_wp2
  rw [← hu]
  obtain ⟨d, hdd⟩ : ∃ d, d = w.heap.size := ⟨_, rfl⟩
  rw [← hdd] at hd he ⊢
  have d0 : u.cell? ⟨d, 0, none⟩ = some (.int .i64 g) := by rw [cell_of_row _ _ _ _ _ _ hd]; rfl
  have d1 : u.cell? ⟨d, 1, none⟩ = some (.pointer none) := by rw [cell_of_row _ _ _ _ _ _ hd]; rfl
  have e0 : u.cell? ⟨d + 1, 0, none⟩ = some (.int .i64 g) := by rw [cell_of_row _ _ _ _ _ _ he]; rfl
  have e1 : u.cell? ⟨d + 1, 1, none⟩ = some (.slice none 0 0) := by rw [cell_of_row _ _ _ _ _ _ he]; rfl
  clear hu hd he
  have hbd := Lib.hid hb1
  clear hdd hb1
  go_quiet ((go_at_call 25; refine quiet_back (HLEN.out _)))
  go_wp2
  have HK2 : Hid (KSl (u.drewN nq) (.slice none 0 0) []) := Lib.hid (.inl ⟨rfl, rfl⟩)
  have hbd2 := Lib.hid (below_drewN' hbd.out nq)
  have d1' : (u.drewN nq).cell? ⟨d, 1, none⟩ = some (.pointer none) := d1
  have e1' : (u.drewN nq).cell? ⟨d + 1, 1, none⟩ = some (.slice none 0 0) := e1
  clear hbd d0 e0 d1 e1
  generalize u.drewN nq = u2 at HK2 hbd2 d1' e1' ⊢
  have hdl : d < u2.heap.size := World.block_lt_of_cell? _ _ d1'
  have hel : d + 1 < u2.heap.size := World.block_lt_of_cell? _ _ e1'
  have SK := Lib.hid (fun W (hb : Below u2.heap.size u2 W) => And.intro ((hb.cell (p := ⟨d, 1, none⟩) hdl).trans d1') ((hb.cell (p := ⟨d + 1, 1, none⟩) hel).trans e1'))
  have b0 : Below u2.heap.size u2 u2.drew := (Below.refl _ _).drew
  have b1 : Below u2.heap.size u2 (u2.alloc (.cells #[.slice none 0 0] 64)).drew := (below_box _ _).drew
  have hrefl : ∀ W : World, Below W.heap.size W W := fun W => Below.refl _ _
  have hboxA : ∀ (W : World) (o : Obj), Below W.heap.size W (W.alloc o) := below_box
  have HN4 : Hid (([] : List Bool).length ≤ 4096) := Lib.hid (by decide)
  have hvn : ∀ W, (convert 23 9 (.slice none 0 0)).run Try.prog W = .ok (.string (strOfNums [])) W := fun W => conv_bsl (bsl_nil W)
  obtain ⟨y1, y2⟩ := SK.out _ b0
  clear d1' e1'
  go_region_held (fun W => W.cell? ⟨d, 1, none⟩ = some (.pointer none) ∧ W.cell? ⟨d + 1, 1, none⟩ = some (.slice none 0 0)) (exact SK.out _ (by first | assumption | exact Below.trans (by assumption) (Below.mono (below_box _ _) (Below.size (by assumption))))) (first
    | (go_at_call 29; refine (bBytes_nil _).mono ?_; rintro e w2 ⟨rfl, rfl⟩)
    | (go_at_call 35; refine (rBytes_d HK2.out (by first | assumption) HN4.out (by exact heap_alloc_new u2 _)).mono ?_; rintro e w3 ⟨v3, rfl, hv3, hb3, hu3⟩; simp only [bytesB_nil] at hv3))
  all_goals go_wp2_with fail
  all_goals go_ret
  all_goals exact ⟨rfl, hbd2.out.trans (hu3.mono hbd2.out.size)⟩

end Go.Proofs.Ytflkggoknmgbnaa
