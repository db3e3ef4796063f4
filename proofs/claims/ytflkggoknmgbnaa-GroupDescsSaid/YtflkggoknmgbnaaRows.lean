/-
  No cell of these rows narrows 'for every input' (looked for: loops, veiled, ifaces, maps, wideKeys, modest, calm, conditions, laid).
  DERIVED. THE GIVEN ROWS OF THIS SEAT. 3 by the template 'for every input the law returns true; each argument reads behind the call as it read before'; 0 by the template 'total and deterministic' (their statements: YtflkggoknmgbnaaTotals.lean).
  GIVEN WITH THE SEED: the statements are not yours to turn. If you find one false, say at which input.
  Laid BY PROGRAM, IN A SANDBOX (cutbox-rows.mjs): the forced cells as the released guide's own fill.sh prints them over the translation 7dbc5fc2542869a1… (all of the seat's roots in one cut). By AI agents, Wed Nov 11 2026. No macro, syntax, notation, axiom, sorry.
-/
import Derived.Test.YtflkggoknmgbnaaChecked
import GoSem.Claim
import GoSem.ClaimJoined
import GoSem.ClaimMapViews
import Derived.JoinedTies
import Derived.KernelRfl
namespace Go.Proofs.Ytflkggoknmgbnaa
/- THE CELL 'sum', in the pinned program and in every row, IS THE sha256 OF THE DUMP (.gsa) THAT YtflkggoknmgbnaaProg.lean LOADS. Nothing in Lean hashes anything: it is a label: what it is worth is what the hold of that sum in a sandbox is worth. -/
noncomputable def Try.pinned : Pinned := { name := "ytflkggoknmgbnaa", sum := "7dbc5fc2542869a106f70ca7209cbf37bd601c26ec47bdc50af918a7b218a3b8", checked := Try.checked }
namespace Rows
def none {H : Type} : Left H := { results := [], args := [] }

/-- 'ashlarlaw06.GroupDescs': WHATEVER THE INPUT: true; the input reads as it did. -/
def groupDescsSpec : ChangeSpec := { name := "groupDescs", fn := fun _ => fun
  | [d1, d2, d3] => { results := [.lit (.bool true)], args := [d1, d2, d3] }
  | _ => none }
def groupDescsRow : OpenClaim := { program := "ytflkggoknmgbnaa", sum := "7dbc5fc2542869a106f70ca7209cbf37bd601c26ec47bdc50af918a7b218a3b8", func := "ashlar/ashlarlaw06.GroupDescs", spec := "groupDescs", apart := false }
def GroupDescsSaid : Prop := groupDescsRow.holds Try.pinned (OpenSpec.ofChange groupDescsSpec)

/-- ITS FALSE NEIGHBOUR: 'it returns false'. Refute it at one input. -/
def groupDescsWrong : ChangeSpec := { name := "groupDescs", fn := fun _ => fun
  | [d1, d2, d3] => { results := [.lit (.bool false)], args := [d1, d2, d3] }
  | _ => none }
def GroupDescsWrongFalsely : Prop := groupDescsRow.holds Try.pinned (OpenSpec.ofChange groupDescsWrong)

/-- 'ashlarlaw06.GroupPages': WHATEVER THE INPUT: true; the input reads as it did. -/
def groupPagesSpec : ChangeSpec := { name := "groupPages", fn := fun _ => fun
  | [d1, d2, d3] => { results := [.lit (.bool true)], args := [d1, d2, d3] }
  | _ => none }
def groupPagesRow : OpenClaim := { program := "ytflkggoknmgbnaa", sum := "7dbc5fc2542869a106f70ca7209cbf37bd601c26ec47bdc50af918a7b218a3b8", func := "ashlar/ashlarlaw06.GroupPages", spec := "groupPages", apart := false }
def GroupPagesSaid : Prop := groupPagesRow.holds Try.pinned (OpenSpec.ofChange groupPagesSpec)

/-- ITS FALSE NEIGHBOUR: 'it returns false'. Refute it at one input. -/
def groupPagesWrong : ChangeSpec := { name := "groupPages", fn := fun _ => fun
  | [d1, d2, d3] => { results := [.lit (.bool false)], args := [d1, d2, d3] }
  | _ => none }
def GroupPagesWrongFalsely : Prop := groupPagesRow.holds Try.pinned (OpenSpec.ofChange groupPagesWrong)

/-- 'ashlarlaw06.GroupNil': WHATEVER THE INPUT: true; the input reads as it did. -/
def groupNilSpec : ChangeSpec := { name := "groupNil", fn := fun _ => fun
  | [d] => { results := [.lit (.bool true)], args := [d] }
  | _ => none }
def groupNilRow : OpenClaim := { program := "ytflkggoknmgbnaa", sum := "7dbc5fc2542869a106f70ca7209cbf37bd601c26ec47bdc50af918a7b218a3b8", func := "ashlar/ashlarlaw06.GroupNil", spec := "groupNil", apart := false }
def GroupNilSaid : Prop := groupNilRow.holds Try.pinned (OpenSpec.ofChange groupNilSpec)

/-- ITS FALSE NEIGHBOUR: 'it returns false'. Refute it at one input. -/
def groupNilWrong : ChangeSpec := { name := "groupNil", fn := fun _ => fun
  | [d] => { results := [.lit (.bool false)], args := [d] }
  | _ => none }
def GroupNilWrongFalsely : Prop := groupNilRow.holds Try.pinned (OpenSpec.ofChange groupNilWrong)

/- THE SECOND FORM. 'bulk': how many values and letters a reading holds, each counted each time it is reached (what is shared counts as often as it is met; a slice's spare places count too). A statement '..UptoSaid' is the law's where the arguments, and the package variables that the reading takes, are together of bulk at most 1048576: NARROWER than '..Said'. Prove '..Said' where nothing that the law and all that it calls make is longer than what came in: it says more and counts as full. Else prove '..UptoSaid'. A law counts once. -/
mutual
def uptoBulk {H : Type} : DataW H → Nat
  | .lit (.string bytes) => bytes.length + 1
  | .lit _ => 1
  | .nil => 1
  | .ptr d => uptoBulk d + 1
  | .slice elems spare => uptoBulkAll elems + uptoBulkAll spare + 1
  | .agg parts => uptoBulkAll parts + 1
  | .iface _ d => uptoBulk d + 1
  | .map entries => uptoBulkEntries entries + 1
  | .held _ => 1
def uptoBulkAll {H : Type} : List (DataW H) → Nat
  | [] => 0
  | d :: r => uptoBulk d + uptoBulkAll r
def uptoBulkEntries {H : Type} : List (Lit × DataW H) → Nat
  | [] => 0
  | x :: r => uptoBulkEntry x + uptoBulkEntries r
def uptoBulkEntry {H : Type} : Lit × DataW H → Nat
  | (.string bytes, d) => bytes.length + uptoBulk d + 1
  | (_, d) => uptoBulk d + 1
 end
def uptoSmall : (H : Type) → List (DataW H) → Bool := fun _ ds => decide (uptoBulkAll ds ≤ 1048576)
def OpenSpec.upto (s : _root_.Go.ChangeSpec) : _root_.Go.OpenSpec := { _root_.Go.OpenSpec.ofChange s with cond := some uptoSmall }

/-- 'ashlarlaw06.GroupDescs', WHERE WHAT IT READS IS OF BULK AT MOST 1048576: true; the input reads as it did. -/
def groupDescsUptoRow : OpenClaim := { program := "ytflkggoknmgbnaa", sum := "7dbc5fc2542869a106f70ca7209cbf37bd601c26ec47bdc50af918a7b218a3b8", func := "ashlar/ashlarlaw06.GroupDescs", spec := "groupDescs", apart := false, narrowed := true }
def GroupDescsUptoSaid : Prop := groupDescsUptoRow.holds Try.pinned (OpenSpec.upto groupDescsSpec)

/-- 'ashlarlaw06.GroupPages', WHERE WHAT IT READS IS OF BULK AT MOST 1048576: true; the input reads as it did. -/
def groupPagesUptoRow : OpenClaim := { program := "ytflkggoknmgbnaa", sum := "7dbc5fc2542869a106f70ca7209cbf37bd601c26ec47bdc50af918a7b218a3b8", func := "ashlar/ashlarlaw06.GroupPages", spec := "groupPages", apart := false, narrowed := true }
def GroupPagesUptoSaid : Prop := groupPagesUptoRow.holds Try.pinned (OpenSpec.upto groupPagesSpec)

/-- 'ashlarlaw06.GroupNil', WHERE WHAT IT READS IS OF BULK AT MOST 1048576: true; the input reads as it did. -/
def groupNilUptoRow : OpenClaim := { program := "ytflkggoknmgbnaa", sum := "7dbc5fc2542869a106f70ca7209cbf37bd601c26ec47bdc50af918a7b218a3b8", func := "ashlar/ashlarlaw06.GroupNil", spec := "groupNil", apart := false, narrowed := true }
def GroupNilUptoSaid : Prop := groupNilUptoRow.holds Try.pinned (OpenSpec.upto groupNilSpec)

end Rows
end Go.Proofs.Ytflkggoknmgbnaa
