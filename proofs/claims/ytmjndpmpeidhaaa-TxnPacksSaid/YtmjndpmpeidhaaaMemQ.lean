/- bytes.Equal; strings that are the same. -/
import Derived.Test.YtmjndpmpeidhaaaMem
namespace Go.Proofs.Ytmjndpmpeidhaaa
open Go.RowKit
set_option linter.unusedVariables false

theorem strOf_inj {l m : List Int} (hl : Byt l) (hm : Byt m) (h : (strOfNums l).data.toList = (strOfNums m).data.toList) : l = m := by
  have e : l.map (fun n => UInt8.ofNat n.toNat) = m.map (fun n => UInt8.ofNat n.toNat) := by
    rw [← strOfNums_data, ← strOfNums_data, h]
  have hlen : l.length = m.length := by simpa using congrArg List.length e
  apply List.ext_getElem hlen
  intro i h1 h2
  have h3 := congrArg (fun z => z[i]?) e
  simp [h1, h2] at h3
  have a := byt_mem hl l[i] (List.getElem_mem h1)
  have b := byt_mem hm m[i] (List.getElem_mem h2)
  have h4 := congrArg UInt8.toNat h3
  simp at h4
  omega
theorem bEqual_of {w : World} {u v : Value} {l m : List Int} (hu : BSl w u l) (hv : BSl w v m) : Calls Try.prog 25 #[u, v] w fun e w' => e = .returned (.bool (decide (l = m))) ∧ w = w' := by
  have c1 := conv_bsl hu
  have c2 := conv_bsl hv
  have b1 := hu.1
  have b2 := hv.1
  have hd : ((strOfNums l).toList == (strOfNums m).toList) = decide (l = m) := by
    by_cases e : l = m
    · rw [decide_eq_true e, e]; exact beq_self_eq_true _
    · rw [decide_eq_false e, ByteArray.toList_eq, ByteArray.toList_eq]
      rw [beq_eq_false_iff_ne]
      exact fun h => e (strOf_inj b1 b2 h)
  have HD := Lib.hid hd
  clear hu hv b1 b2 hd
  go_enter Try.func25, Try.ntmps25
  go_wp2
  go_ret
  exact ⟨by rw [← HD.out]; rfl, rfl⟩
end Go.Proofs.Ytmjndpmpeidhaaa
