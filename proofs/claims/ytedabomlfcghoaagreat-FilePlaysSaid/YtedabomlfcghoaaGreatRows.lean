/-
  No cell of these rows narrows 'for every input' (looked for: loops, veiled, ifaces, maps, wideKeys, modest, calm, conditions, laid).
  DERIVED. THE GIVEN ROWS OF THIS SEAT. 4 by the template 'for every input the law returns true; each argument reads behind the call as it read before'; 0 by the template 'total and deterministic' (their statements: YtedabomlfcghoaaGreatTotals.lean).
  GIVEN WITH THE SEED: the statements are not yours to turn. If you find one false, say at which input.
  Laid BY PROGRAM, IN A SANDBOX (cutbox-rows.mjs): the forced cells as the released guide's own fill.sh prints them over the translation 1462095ebb1bbf2b… (all of the seat's roots in one cut). By AI agents, Wed Nov 11 2026. No macro, syntax, notation, axiom, sorry.
-/
import Derived.Test.YtedabomlfcghoaaGreatChecked
import GoSem.Claim
import GoSem.ClaimJoined
import GoSem.ClaimMapViews
import Derived.JoinedTies
import Derived.KernelRfl
namespace Go.Proofs.YtedabomlfcghoaaGreat
/- THE CELL 'sum', in the pinned program and in every row, IS THE sha256 OF THE DUMP (.gsa) THAT YtedabomlfcghoaaGreatProg.lean LOADS. Nothing in Lean hashes anything: it is a label: what it is worth is what the hold of that sum in a sandbox is worth. -/
noncomputable def Tryz.pinned : Pinned := { name := "ytedabomlfcghoaagreat", sum := "1462095ebb1bbf2b199d6db01a2cc4e5a7705c3c194b311a507899204e63a4cb", checked := Tryz.checked }
namespace Rows
def none {H : Type} : Left H := { results := [], args := [] }

/-- 'ashlarlaw15.FilePlays': WHATEVER THE INPUT: true; the input reads as it did. -/
def filePlaysSpec : ChangeSpec := { name := "filePlays", fn := fun _ => fun
  | [d1, d2] => { results := [.lit (.bool true)], args := [d1, d2] }
  | _ => none }
def filePlaysRow : OpenClaim := { program := "ytedabomlfcghoaagreat", sum := "1462095ebb1bbf2b199d6db01a2cc4e5a7705c3c194b311a507899204e63a4cb", func := "ashlar/ashlarlaw15.FilePlays", spec := "filePlays", unfollowed := true, recurses := true, apart := false }
def FilePlaysSaid : Prop := filePlaysRow.holds Tryz.pinned (OpenSpec.ofChange filePlaysSpec)

/-- ITS FALSE NEIGHBOUR: 'it returns false'. Refute it at one input. -/
def filePlaysWrong : ChangeSpec := { name := "filePlays", fn := fun _ => fun
  | [d1, d2] => { results := [.lit (.bool false)], args := [d1, d2] }
  | _ => none }
def FilePlaysWrongFalsely : Prop := filePlaysRow.holds Tryz.pinned (OpenSpec.ofChange filePlaysWrong)

/-- 'ashlarlaw15.FileParts': WHATEVER THE INPUT: true; the input reads as it did. -/
def filePartsSpec : ChangeSpec := { name := "fileParts", fn := fun _ => fun
  | [d1, d2, d3] => { results := [.lit (.bool true)], args := [d1, d2, d3] }
  | _ => none }
def filePartsRow : OpenClaim := { program := "ytedabomlfcghoaagreat", sum := "1462095ebb1bbf2b199d6db01a2cc4e5a7705c3c194b311a507899204e63a4cb", func := "ashlar/ashlarlaw15.FileParts", spec := "fileParts", unfollowed := true, recurses := true, apart := false }
def FilePartsSaid : Prop := filePartsRow.holds Tryz.pinned (OpenSpec.ofChange filePartsSpec)

/-- ITS FALSE NEIGHBOUR: 'it returns false'. Refute it at one input. -/
def filePartsWrong : ChangeSpec := { name := "fileParts", fn := fun _ => fun
  | [d1, d2, d3] => { results := [.lit (.bool false)], args := [d1, d2, d3] }
  | _ => none }
def FilePartsWrongFalsely : Prop := filePartsRow.holds Tryz.pinned (OpenSpec.ofChange filePartsWrong)

/-- 'ashlarlaw15.FileBad': WHATEVER THE INPUT: true; the input reads as it did. -/
def fileBadSpec : ChangeSpec := { name := "fileBad", fn := fun _ => fun
  | [d1, d2, d3, d4] => { results := [.lit (.bool true)], args := [d1, d2, d3, d4] }
  | _ => none }
def fileBadRow : OpenClaim := { program := "ytedabomlfcghoaagreat", sum := "1462095ebb1bbf2b199d6db01a2cc4e5a7705c3c194b311a507899204e63a4cb", func := "ashlar/ashlarlaw15.FileBad", spec := "fileBad", unfollowed := true, recurses := true, apart := false }
def FileBadSaid : Prop := fileBadRow.holds Tryz.pinned (OpenSpec.ofChange fileBadSpec)

/-- ITS FALSE NEIGHBOUR: 'it returns false'. Refute it at one input. -/
def fileBadWrong : ChangeSpec := { name := "fileBad", fn := fun _ => fun
  | [d1, d2, d3, d4] => { results := [.lit (.bool false)], args := [d1, d2, d3, d4] }
  | _ => none }
def FileBadWrongFalsely : Prop := fileBadRow.holds Tryz.pinned (OpenSpec.ofChange fileBadWrong)

/-- 'ashlarlaw15.FileHoles': WHATEVER THE INPUT: true; the input reads as it did. -/
def fileHolesSpec : ChangeSpec := { name := "fileHoles", fn := fun _ => fun
  | [d1, d2, d3, d4] => { results := [.lit (.bool true)], args := [d1, d2, d3, d4] }
  | _ => none }
def fileHolesRow : OpenClaim := { program := "ytedabomlfcghoaagreat", sum := "1462095ebb1bbf2b199d6db01a2cc4e5a7705c3c194b311a507899204e63a4cb", func := "ashlar/ashlarlaw15.FileHoles", spec := "fileHoles", unfollowed := true, recurses := true, apart := false }
def FileHolesSaid : Prop := fileHolesRow.holds Tryz.pinned (OpenSpec.ofChange fileHolesSpec)

/-- ITS FALSE NEIGHBOUR: 'it returns false'. Refute it at one input. -/
def fileHolesWrong : ChangeSpec := { name := "fileHoles", fn := fun _ => fun
  | [d1, d2, d3, d4] => { results := [.lit (.bool false)], args := [d1, d2, d3, d4] }
  | _ => none }
def FileHolesWrongFalsely : Prop := fileHolesRow.holds Tryz.pinned (OpenSpec.ofChange fileHolesWrong)

/- THE SECOND FORM. 'bulk': how many values and letters a reading holds, each counted each time it is reached (what is shared counts as often as it is met; a slice's spare places count too). A statement '..UptoSaid' is the law's where the arguments, and the package variables that the reading takes, are together of bulk at most 1048576: NARROWER than '..Said'. Prove '..Said' where nothing that the law and all that it calls make is longer than what came in: it says more and counts as full. Else prove '..UptoSaid'. A law counts once. -/
mutual
def uptoBulk {H : Type} : DataW H → Nat
  | .lit (.string bytes) => bytes.length + 1
  | .lit _ => 1
  | .nil => 1
  | .ptr d => uptoBulk d + 1
  | .slice elems spare => uptoBulkAll elems + uptoBulkAll spare + 1
  | .agg parts => uptoBulkAll parts + 1
  | .iface _ d => uptoBulk d + 1
  | .map entries => uptoBulkEntries entries + 1
  | .held _ => 1
def uptoBulkAll {H : Type} : List (DataW H) → Nat
  | [] => 0
  | d :: r => uptoBulk d + uptoBulkAll r
def uptoBulkEntries {H : Type} : List (Lit × DataW H) → Nat
  | [] => 0
  | x :: r => uptoBulkEntry x + uptoBulkEntries r
def uptoBulkEntry {H : Type} : Lit × DataW H → Nat
  | (.string bytes, d) => bytes.length + uptoBulk d + 1
  | (_, d) => uptoBulk d + 1
 end
def uptoSmall : (H : Type) → List (DataW H) → Bool := fun _ ds => decide (uptoBulkAll ds ≤ 1048576)
def OpenSpec.upto (s : _root_.Go.ChangeSpec) : _root_.Go.OpenSpec := { _root_.Go.OpenSpec.ofChange s with cond := some uptoSmall }

/-- 'ashlarlaw15.FilePlays', WHERE WHAT IT READS IS OF BULK AT MOST 1048576: true; the input reads as it did. -/
def filePlaysUptoRow : OpenClaim := { program := "ytedabomlfcghoaagreat", sum := "1462095ebb1bbf2b199d6db01a2cc4e5a7705c3c194b311a507899204e63a4cb", func := "ashlar/ashlarlaw15.FilePlays", spec := "filePlays", unfollowed := true, recurses := true, apart := false, narrowed := true }
def FilePlaysUptoSaid : Prop := filePlaysUptoRow.holds Tryz.pinned (OpenSpec.upto filePlaysSpec)

/-- 'ashlarlaw15.FileParts', WHERE WHAT IT READS IS OF BULK AT MOST 1048576: true; the input reads as it did. -/
def filePartsUptoRow : OpenClaim := { program := "ytedabomlfcghoaagreat", sum := "1462095ebb1bbf2b199d6db01a2cc4e5a7705c3c194b311a507899204e63a4cb", func := "ashlar/ashlarlaw15.FileParts", spec := "fileParts", unfollowed := true, recurses := true, apart := false, narrowed := true }
def FilePartsUptoSaid : Prop := filePartsUptoRow.holds Tryz.pinned (OpenSpec.upto filePartsSpec)

/-- 'ashlarlaw15.FileBad', WHERE WHAT IT READS IS OF BULK AT MOST 1048576: true; the input reads as it did. -/
def fileBadUptoRow : OpenClaim := { program := "ytedabomlfcghoaagreat", sum := "1462095ebb1bbf2b199d6db01a2cc4e5a7705c3c194b311a507899204e63a4cb", func := "ashlar/ashlarlaw15.FileBad", spec := "fileBad", unfollowed := true, recurses := true, apart := false, narrowed := true }
def FileBadUptoSaid : Prop := fileBadUptoRow.holds Tryz.pinned (OpenSpec.upto fileBadSpec)

/-- 'ashlarlaw15.FileHoles', WHERE WHAT IT READS IS OF BULK AT MOST 1048576: true; the input reads as it did. -/
def fileHolesUptoRow : OpenClaim := { program := "ytedabomlfcghoaagreat", sum := "1462095ebb1bbf2b199d6db01a2cc4e5a7705c3c194b311a507899204e63a4cb", func := "ashlar/ashlarlaw15.FileHoles", spec := "fileHoles", unfollowed := true, recurses := true, apart := false, narrowed := true }
def FileHolesUptoSaid : Prop := fileHolesUptoRow.holds Tryz.pinned (OpenSpec.upto fileHolesSpec)

end Rows
end Go.Proofs.YtedabomlfcghoaaGreat
