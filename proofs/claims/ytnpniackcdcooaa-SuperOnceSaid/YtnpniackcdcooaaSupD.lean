/- Contracts: bytes.Equal, Decode. -/
import Derived.Test.YtnpniackcdcooaaSupE
import Derived.Test.YtnpniackcdcooaaSupR
namespace Go.Proofs.Ytnpniackcdcooaa
open Go.RowKit
set_option linter.unusedVariables false

theorem strOf_inj {l m : List Int} (hl : Byt l) (hm : Byt m) (h : (strOfNums l).data.toList = (strOfNums m).data.toList) : l = m := by
  have e : l.map (fun n => UInt8.ofNat n.toNat) = m.map (fun n => UInt8.ofNat n.toNat) := by
    rw [← strOfNums_data, ← strOfNums_data, h]
  have hlen : l.length = m.length := by simpa using congrArg List.length e
  apply List.ext_getElem hlen
  intro i h1 h2
  have h3 := congrArg (fun z => z[i]?) e
  simp [h1, h2] at h3
  have a := byt_mem hl l[i] (List.getElem_mem h1)
  have b := byt_mem hm m[i] (List.getElem_mem h2)
  have h4 := congrArg UInt8.toNat h3
  simp at h4
  omega
theorem bEqual_of {w : World} {u v : Value} {l m : List Int} (hu : BSl w u l) (hv : BSl w v m) : Calls Try.prog 29 #[u, v] w fun e w' => e = .returned (.bool (decide (l = m))) ∧ w = w' := by
  have c1 := conv_bsl hu
  have c2 := conv_bsl hv
  have b1 := hu.1
  have b2 := hv.1
  have hd : ((strOfNums l).toList == (strOfNums m).toList) = decide (l = m) := by
    by_cases e : l = m
    · rw [decide_eq_true e, e]; exact beq_self_eq_true _
    · rw [decide_eq_false e, ByteArray.toList_eq, ByteArray.toList_eq]
      rw [beq_eq_false_iff_ne]
      exact fun h => e (strOf_inj b1 b2 h)
  have HD := Lib.hid hd
  clear hu hv b1 b2 hd
  go_enter Try.func29, Try.ntmps29
  go_wp2
  go_ret
  exact ⟨by rw [← HD.out]; rfl, rfl⟩

def zeroS : List Int := List.replicate 12 0
/-- What Decode hands back. -/
def DecOut (l : List Int) (w : World) (e : Ending) (w' : World) : Prop :=
  Below w.heap.size w w' ∧ ((hasS l ∧ e = .returned (.tuple #[supV (decS l), .int .i64 0])) ∨ (¬ hasS l ∧ e = .returned (.tuple #[supV zeroS, .int .i64 18])))
theorem top_rd {c : List Int} (hb : Byt c) : Top (rdS c) := fun i => by
  by_cases hi : i < 12
  · rw [num_rdS _ _ hi]; have := getV_fit hb i; omega
  · unfold num; rw [List.getD_eq_getElem?_getD, List.getElem?_eq_none (by rw [rdS_length]; omega)]; decide
theorem pOpen_not {w : World} {v : Value} {l : List Int} (hs : BSl w v l) (h : ¬ sealed l) : Calls Try.prog 27 #[v] w fun e w' => e = .returned (.tuple #[.slice none 0 0, .bool false]) ∧ Below w.heap.size w w' :=
  (pOpen_any hs).mono fun e w' ho => ho.elim (fun h1 => absurd h1.1 h) fun h1 => h1.2
theorem pOpen_is {w : World} {v : Value} {l : List Int} (hs : BSl w v l) (h : sealed l) : Calls Try.prog 27 #[v] w fun e w' => ∃ v, e = .returned (.tuple #[v, .bool true]) ∧ OB w' w.heap.size v (l.take 252) ∧ Below w.heap.size w w' :=
  (pOpen_any hs).mono fun e w' ho => ho.elim (fun h1 => h1.2) fun h1 => absurd h h1.1
theorem sEnc_no {L : List Int} (hL : L.length = 12) (hT : Top L) (h : frmS L = false) (w : World) : Calls Try.prog 7 #[supV L] w fun e w' => e = .returned (.tuple #[.slice none 0 0, .int .i64 1]) ∧ Below w.heap.size w w' :=
  (sEnc_of hL hT w).mono fun e w' ho => ho.elim (fun h1 => by rw [h] at h1; cases h1.1) fun h1 => h1.2
theorem sEnc_is {L : List Int} (hL : L.length = 12) (hT : Top L) (h : frmS L = true) (w : World) : Calls Try.prog 7 #[supV L] w fun e w' => ∃ v, e = .returned (.tuple #[v, .int .i64 0]) ∧ OB w' w.heap.size v (encS L) ∧ Below w.heap.size w w' :=
  (sEnc_of hL hT w).mono fun e w' ho => ho.elim (fun h1 => h1.2) fun h1 => by rw [h] at h1; cases h1.1
theorem ret_sup2 {fn : Func} {p u : Tmp} (h : fn.results = #[.cell p 26, .tmp u]) (tmps : Array Value) (w : World) (g : Nat) (T : TypeId) (L : List Int) (x : Value) (hL : L.length = 12) (hp : tmps.getD p undef = .pointer (some ⟨g, 0, none⟩)) (hg : w.heap[g]? = some (supO L T)) (hx : tmps.getD u undef = x) :
    (results fn tmps).run Try.prog w = .ok (.tuple #[supV L, x]) w := by
  rw [results_cell_tmp h, hp, hx]
  simp only [asAddr, Sem.run_pure, Result.andThen_ok]
  rw [run_loadVar_row w g T 26 _ (0, 0) _ hg Try.underlying26 rfl (by rw [infoS]; simp [hL])]
  rfl

theorem sDec_not {w : World} {v : Value} {l : List Int} (hs : BSl w v l) (h : ¬ sealed l) : Calls Try.prog 13 #[v] w fun e w' => e = .returned (.tuple #[supV zeroS, .int .i64 18]) ∧ Below w.heap.size w w' := by
  have hb1 := below_box w (supO zeroS 26)
  have hr1 := heap_alloc_new w (supO zeroS 26)
  obtain ⟨w1, hw1⟩ : ∃ w1, w1 = w.alloc (supO zeroS 26) := ⟨_, rfl⟩
  rw [← hw1] at hb1 hr1
  have h1 : w.alloc (.cells #[.int .i64 0, .int .i64 0, .int .i64 0, .int .i64 0, .int .i64 0, .int .i64 0, .int .i64 0, .int .i64 0, .int .i64 0, .int .i64 0, .int .i64 0, .int .i64 0] 26) = w1 := by rw [hw1]; rfl
  have hz1 : w.heap.size < w1.heap.size := by rw [hw1]; simp
  have H1 := Lib.hid h1
  have HR1 := Lib.hid hr1
  have HO := Lib.hid (pOpen_not (hs.below hb1) h)
  clear hs h h1 hw1 hr1
  go_enter Try.func13, Try.ntmps13
  go_wp2_with (first
    | (go_at_call 27; rw [H1.out]; refine HO.out.mono ?_; rintro e w2 ⟨rfl, hb2⟩
       have hr2 : w2.heap[w.heap.size]? = some (supO zeroS 26) := (hb2.block _ hz1).trans HR1.out)
    | (with_reducible refine wpList_storeS rfl (.tmp 2) (.tmp 16) rfl w.heap.size rfl zeroS zeroS rfl rfl rfl _ hr2 ?_; intro w3 hw3 hr3))
  exact bodyPost_ret (ret_sup2 rfl _ _ w.heap.size _ _ _ rfl rfl hr3 rfl) rfl ⟨rfl, (hb1.trans (hb2.mono hb1.size)).trans (hw3.below (Nat.le_refl _))⟩

theorem take_len {l : List Int} (h : sealed l) : (l.take 252).length = 252 := by
  have := h.1
  rw [List.length_take]; omega

theorem sDec_bad {w : World} {v : Value} {l : List Int} (hs : BSl w v l) (h : sealed l) (hf : frmS (rdS (l.take 252)) = false) : Calls Try.prog 13 #[v] w fun e w' => e = .returned (.tuple #[supV zeroS, .int .i64 18]) ∧ Below w.heap.size w w' := by
  have hb1 := below_box w (supO zeroS 26)
  have hr1 := heap_alloc_new w (supO zeroS 26)
  obtain ⟨w1, hw1⟩ : ∃ w1, w1 = w.alloc (supO zeroS 26) := ⟨_, rfl⟩
  rw [← hw1] at hb1 hr1
  have h1 : w.alloc (.cells #[.int .i64 0, .int .i64 0, .int .i64 0, .int .i64 0, .int .i64 0, .int .i64 0, .int .i64 0, .int .i64 0, .int .i64 0, .int .i64 0, .int .i64 0, .int .i64 0] 26) = w1 := by rw [hw1]; rfl
  have hz1 : w.heap.size < w1.heap.size := by rw [hw1]; simp
  have H1 := Lib.hid h1
  have HR1 := Lib.hid hr1
  have HO := Lib.hid (pOpen_is (hs.below hb1) h)
  have hlt := take_len h
  have htop := top_rd (byt_take hs.1 252)
  have hrl := rdS_length (l.take 252)
  obtain ⟨c, hc⟩ : ∃ c, c = l.take 252 := ⟨_, rfl⟩
  rw [← hc] at hlt HO hf htop hrl
  obtain ⟨L, hL⟩ : ∃ L, L = rdS c := ⟨_, rfl⟩
  rw [← hL] at hf htop hrl
  have HL := Lib.hid hL
  have HLT := Lib.hid hlt
  have HEN := Lib.hid (sEnc_no hrl htop hf)
  clear hs h h1 hw1 hr1 hc hf htop hlt hL
  go_enter Try.func13, Try.ntmps13
  go_wp2_with (first
    | (go_at_call 27; rw [H1.out]; refine HO.out.mono ?_; rintro e w2 ⟨v2, rfl, hob2, hb2⟩)
    | (go_at_call 28; refine (sRead_of hob2.bsl HLT.out).mono ?_; rw [← HL.out]; rintro e w3 ⟨rfl, hb3⟩)
    | (with_reducible refine wpList_storeS rfl (.tmp 6) (.tmp 18) rfl w3.heap.size rfl L zeroS rfl hrl rfl _ (heap_alloc_new w3 _) ?_
       intro w5 hw5 hr5
       have hb5 : Below w3.heap.size w3 w5 := (below_box w3 _).trans (hw5.below (Nat.le_refl _)))
    | (with_reducible refine wpList_loadS rfl (.tmp 6) rfl w3.heap.size rfl L hrl _ hr5 ?_)
    | (go_at_call 7; refine (HEN.out _).mono ?_; rintro e w6 ⟨rfl, hb6⟩
       have hz2 := Nat.lt_of_lt_of_le hz1 hb2.size
       have hz3 := Nat.lt_of_lt_of_le hz2 hb3.size
       have hz5 := Nat.lt_of_lt_of_le hz3 hb5.size
       have hr6 : w6.heap[w.heap.size]? = some (supO zeroS 26) := by rw [hb6.block _ hz5, hb5.block _ hz3, hb3.block _ hz2, hb2.block _ hz1]; exact HR1.out
       have hb26 : Below w2.heap.size w2 w6 := (hb3.trans (hb5.mono hb3.size)).trans (hb6.mono (Nat.le_trans hb3.size hb5.size))
       have hb06 : Below w.heap.size w w6 := (hb1.trans (hb2.mono hb1.size)).trans (hb26.mono (Nat.le_trans hb1.size hb2.size))
       clear hz2 hz3 hz5 hb26)
    | (with_reducible refine wpList_storeS rfl (.tmp 2) (.tmp 32) rfl w.heap.size rfl zeroS zeroS rfl rfl rfl _ hr6 ?_; intro w7 hw7 hr7))
  exact bodyPost_ret (ret_sup2 rfl _ _ w.heap.size _ _ _ rfl rfl hr7 rfl) rfl ⟨rfl, hb06.trans (hw7.below (Nat.le_refl _))⟩
theorem sDec_good {w : World} {v : Value} {l : List Int} (hs : BSl w v l) (h : sealed l) (hf : frmS (rdS (l.take 252)) = true) (heq : encS (rdS (l.take 252)) = l) : Calls Try.prog 13 #[v] w fun e w' => e = .returned (.tuple #[supV (rdS (l.take 252)), .int .i64 0]) ∧ Below w.heap.size w w' := by
  have hb1 := below_box w (supO zeroS 26)
  have hr1 := heap_alloc_new w (supO zeroS 26)
  obtain ⟨w1, hw1⟩ : ∃ w1, w1 = w.alloc (supO zeroS 26) := ⟨_, rfl⟩
  rw [← hw1] at hb1 hr1
  have h1 : w.alloc (.cells #[.int .i64 0, .int .i64 0, .int .i64 0, .int .i64 0, .int .i64 0, .int .i64 0, .int .i64 0, .int .i64 0, .int .i64 0, .int .i64 0, .int .i64 0, .int .i64 0] 26) = w1 := by rw [hw1]; rfl
  have hz1 : w.heap.size < w1.heap.size := by rw [hw1]; simp
  have H1 := Lib.hid h1
  have HR1 := Lib.hid hr1
  have HS := Lib.hid hs
  have HO := Lib.hid (pOpen_is (hs.below hb1) h)
  have hlt := take_len h
  have htop := top_rd (byt_take hs.1 252)
  have hrl := rdS_length (l.take 252)
  obtain ⟨c, hc⟩ : ∃ c, c = l.take 252 := ⟨_, rfl⟩
  rw [← hc] at hlt HO hf htop hrl heq ⊢
  obtain ⟨L, hL⟩ : ∃ L, L = rdS c := ⟨_, rfl⟩
  rw [← hL] at hf htop hrl heq ⊢
  have HL := Lib.hid hL
  have HLT := Lib.hid hlt
  have HEN := Lib.hid (sEnc_is hrl htop hf)
  have HD : Hid (decide (encS L = l) = true) := Lib.hid (decide_eq_true heq)
  clear hs h h1 hw1 hr1 hc hf htop hlt hL heq
  go_enter Try.func13, Try.ntmps13
  go_wp2_with (first
    | (go_at_call 27; rw [H1.out]; refine HO.out.mono ?_; rintro e w2 ⟨v2, rfl, hob2, hb2⟩)
    | (go_at_call 28; refine (sRead_of hob2.bsl HLT.out).mono ?_; rw [← HL.out]; rintro e w3 ⟨rfl, hb3⟩)
    | (with_reducible refine wpList_storeS rfl (.tmp 6) (.tmp 18) rfl w3.heap.size rfl L zeroS rfl hrl rfl _ (heap_alloc_new w3 _) ?_
       intro w5 hw5 hr5
       have hb5 : Below w3.heap.size w3 w5 := (below_box w3 _).trans (hw5.below (Nat.le_refl _)))
    | (with_reducible refine wpList_loadS rfl (.tmp 6) rfl w3.heap.size rfl L hrl _ hr5 ?_)
    | (go_at_call 7; refine (HEN.out _).mono ?_; rintro e w6 ⟨v6, rfl, hob6, hb6⟩
       have hz2 := Nat.lt_of_lt_of_le hz1 hb2.size
       have hz3 := Nat.lt_of_lt_of_le hz2 hb3.size
       have hz5 := Nat.lt_of_lt_of_le hz3 hb5.size
       have hr6 : w6.heap[w.heap.size]? = some (supO zeroS 26) := by rw [hb6.block _ hz5, hb5.block _ hz3, hb3.block _ hz2, hb2.block _ hz1]; exact HR1.out
       have hrs6 : w6.heap[w3.heap.size]? = some (supO L 26) := by rw [hb6.block _ (Array.getElem?_eq_some_iff.1 hr5).1]; exact hr5
       have hb26 : Below w2.heap.size w2 w6 := (hb3.trans (hb5.mono hb3.size)).trans (hb6.mono (Nat.le_trans hb3.size hb5.size))
       have hb06 : Below w.heap.size w w6 := (hb1.trans (hb2.mono hb1.size)).trans (hb26.mono (Nat.le_trans hb1.size hb2.size))
       clear hz2 hz3 hz5 hb26)
    | (go_at_call 29; refine (bEqual_of hob6.bsl (HS.out.below hb06)).mono ?_; rw [HD.out]; rintro e w' ⟨rfl, rfl⟩)
    | (with_reducible refine wpList_loadS rfl (.tmp 6) rfl w3.heap.size rfl L hrl _ hrs6 ?_)
    | (with_reducible refine wpList_storeS rfl (.tmp 2) (.tmp 33) rfl w.heap.size rfl L zeroS rfl hrl rfl _ hr6 ?_; intro w7 hw7 hr7))
  exact bodyPost_ret (ret_sup2 rfl _ _ w.heap.size _ _ _ hrl rfl hr7 rfl) rfl ⟨rfl, hb06.trans (hw7.below (Nat.le_refl _))⟩
theorem sDec_other {w : World} {v : Value} {l : List Int} (hs : BSl w v l) (h : sealed l) (hf : frmS (rdS (l.take 252)) = true) (heq : encS (rdS (l.take 252)) ≠ l) : Calls Try.prog 13 #[v] w fun e w' => e = .returned (.tuple #[supV zeroS, .int .i64 18]) ∧ Below w.heap.size w w' := by
  have hb1 := below_box w (supO zeroS 26)
  have hr1 := heap_alloc_new w (supO zeroS 26)
  obtain ⟨w1, hw1⟩ : ∃ w1, w1 = w.alloc (supO zeroS 26) := ⟨_, rfl⟩
  rw [← hw1] at hb1 hr1
  have h1 : w.alloc (.cells #[.int .i64 0, .int .i64 0, .int .i64 0, .int .i64 0, .int .i64 0, .int .i64 0, .int .i64 0, .int .i64 0, .int .i64 0, .int .i64 0, .int .i64 0, .int .i64 0] 26) = w1 := by rw [hw1]; rfl
  have hz1 : w.heap.size < w1.heap.size := by rw [hw1]; simp
  have H1 := Lib.hid h1
  have HR1 := Lib.hid hr1
  have HS := Lib.hid hs
  have HO := Lib.hid (pOpen_is (hs.below hb1) h)
  have hlt := take_len h
  have htop := top_rd (byt_take hs.1 252)
  have hrl := rdS_length (l.take 252)
  obtain ⟨c, hc⟩ : ∃ c, c = l.take 252 := ⟨_, rfl⟩
  rw [← hc] at hlt HO hf htop hrl heq
  obtain ⟨L, hL⟩ : ∃ L, L = rdS c := ⟨_, rfl⟩
  rw [← hL] at hf htop hrl heq
  have HL := Lib.hid hL
  have HLT := Lib.hid hlt
  have HEN := Lib.hid (sEnc_is hrl htop hf)
  have HD : Hid (decide (encS L = l) = false) := Lib.hid (decide_eq_false heq)
  clear hs h h1 hw1 hr1 hc hf htop hlt hL heq
  go_enter Try.func13, Try.ntmps13
  go_wp2_with (first
    | (go_at_call 27; rw [H1.out]; refine HO.out.mono ?_; rintro e w2 ⟨v2, rfl, hob2, hb2⟩)
    | (go_at_call 28; refine (sRead_of hob2.bsl HLT.out).mono ?_; rw [← HL.out]; rintro e w3 ⟨rfl, hb3⟩)
    | (with_reducible refine wpList_storeS rfl (.tmp 6) (.tmp 18) rfl w3.heap.size rfl L zeroS rfl hrl rfl _ (heap_alloc_new w3 _) ?_
       intro w5 hw5 hr5
       have hb5 : Below w3.heap.size w3 w5 := (below_box w3 _).trans (hw5.below (Nat.le_refl _)))
    | (with_reducible refine wpList_loadS rfl (.tmp 6) rfl w3.heap.size rfl L hrl _ hr5 ?_)
    | (go_at_call 7; refine (HEN.out _).mono ?_; rintro e w6 ⟨v6, rfl, hob6, hb6⟩
       have hz2 := Nat.lt_of_lt_of_le hz1 hb2.size
       have hz3 := Nat.lt_of_lt_of_le hz2 hb3.size
       have hz5 := Nat.lt_of_lt_of_le hz3 hb5.size
       have hr6 : w6.heap[w.heap.size]? = some (supO zeroS 26) := by rw [hb6.block _ hz5, hb5.block _ hz3, hb3.block _ hz2, hb2.block _ hz1]; exact HR1.out
       have hrs6 : w6.heap[w3.heap.size]? = some (supO L 26) := by rw [hb6.block _ (Array.getElem?_eq_some_iff.1 hr5).1]; exact hr5
       have hb26 : Below w2.heap.size w2 w6 := (hb3.trans (hb5.mono hb3.size)).trans (hb6.mono (Nat.le_trans hb3.size hb5.size))
       have hb06 : Below w.heap.size w w6 := (hb1.trans (hb2.mono hb1.size)).trans (hb26.mono (Nat.le_trans hb1.size hb2.size))
       clear hz2 hz3 hz5 hb26)
    | (go_at_call 29; refine (bEqual_of hob6.bsl (HS.out.below hb06)).mono ?_; rw [HD.out]; rintro e w' ⟨rfl, rfl⟩)
    | (with_reducible refine wpList_storeS rfl (.tmp 2) (.tmp 32) rfl w.heap.size rfl zeroS zeroS rfl rfl rfl _ hr6 ?_; intro w7 hw7 hr7))
  exact bodyPost_ret (ret_sup2 rfl _ _ w.heap.size _ _ _ rfl rfl hr7 rfl) rfl ⟨rfl, hb06.trans (hw7.below (Nat.le_refl _))⟩

theorem sDec_of {w : World} {v : Value} {l : List Int} (hs : BSl w v l) : Calls Try.prog 13 #[v] w (DecOut l w) := by
  by_cases h : sealed l
  · by_cases hf : frmS (rdS (l.take 252)) = true
    · by_cases heq : encS (rdS (l.take 252)) = l
      · exact (sDec_good hs h hf heq).mono fun e w' ⟨h1, h2⟩ => ⟨h2, .inl ⟨⟨h, hf, heq⟩, h1⟩⟩
      · exact (sDec_other hs h hf heq).mono fun e w' ⟨h1, h2⟩ => ⟨h2, .inr ⟨fun hh => heq hh.2.2, h1⟩⟩
    · exact (sDec_bad hs h (by simpa using hf)).mono fun e w' ⟨h1, h2⟩ => ⟨h2, .inr ⟨fun hh => hf hh.2.1, h1⟩⟩
  · exact (sDec_not hs h).mono fun e w' ⟨h1, h2⟩ => ⟨h2, .inr ⟨fun hh => h hh.1, h1⟩⟩
end Go.Proofs.Ytnpniackcdcooaa
