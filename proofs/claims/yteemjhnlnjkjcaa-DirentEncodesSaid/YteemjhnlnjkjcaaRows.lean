/-
  No cell of these rows narrows 'for every input' (looked for: loops, veiled, ifaces, maps, wideKeys, modest, calm, conditions, laid).
  DERIVED. THE GIVEN ROWS OF THIS SEAT. 3 by the template 'for every input the law returns true; each argument reads behind the call as it read before'; 0 by the template 'total and deterministic' (their statements: YteemjhnlnjkjcaaTotals.lean).
  GIVEN WITH THE SEED: the statements are not yours to turn. If you find one false, say at which input.
  Laid BY PROGRAM, IN A SANDBOX (cutbox-rows.mjs): the forced cells as the released guide's own fill.sh prints them over the translation c8a0d7604191f62e… (all of the seat's roots in one cut). By AI agents, Wed Nov 11 2026. No macro, syntax, notation, axiom, sorry.
-/
import Derived.Test.YteemjhnlnjkjcaaChecked
import GoSem.Claim
import GoSem.ClaimJoined
import GoSem.ClaimMapViews
import Derived.JoinedTies
import Derived.KernelRfl
namespace Go.Proofs.Yteemjhnlnjkjcaa
/- THE CELL 'sum', in the pinned program and in every row, IS THE sha256 OF THE DUMP (.gsa) THAT YteemjhnlnjkjcaaProg.lean LOADS. Nothing in Lean hashes anything: it is a label: what it is worth is what the hold of that sum in a sandbox is worth. -/
noncomputable def Try.pinned : Pinned := { name := "yteemjhnlnjkjcaa", sum := "c8a0d7604191f62e092c5d8f17488367f20e4b559bab121c3f9c29563405a72e", checked := Try.checked }
namespace Rows
def none {H : Type} : Left H := { results := [], args := [] }

/-- 'ashlarlaw08.DirentEncodes': WHATEVER THE INPUT: true; the input reads as it did. -/
def direntEncodesSpec : ChangeSpec := { name := "direntEncodes", fn := fun _ => fun
  | [d] => { results := [.lit (.bool true)], args := [d] }
  | _ => none }
def direntEncodesRow : OpenClaim := { program := "yteemjhnlnjkjcaa", sum := "c8a0d7604191f62e092c5d8f17488367f20e4b559bab121c3f9c29563405a72e", func := "ashlar/ashlarlaw08.DirentEncodes", spec := "direntEncodes", inPlace := ["internal/bytealg.IndexByteString"], apart := false }
def DirentEncodesSaid : Prop := direntEncodesRow.holds Try.pinned (OpenSpec.ofChange direntEncodesSpec)

/-- ITS FALSE NEIGHBOUR: 'it returns false'. Refute it at one input. -/
def direntEncodesWrong : ChangeSpec := { name := "direntEncodes", fn := fun _ => fun
  | [d] => { results := [.lit (.bool false)], args := [d] }
  | _ => none }
def DirentEncodesWrongFalsely : Prop := direntEncodesRow.holds Try.pinned (OpenSpec.ofChange direntEncodesWrong)

/-- 'ashlarlaw08.DirentDecodes': WHATEVER THE INPUT: true; the input reads as it did. -/
def direntDecodesSpec : ChangeSpec := { name := "direntDecodes", fn := fun _ => fun
  | [d] => { results := [.lit (.bool true)], args := [d] }
  | _ => none }
def direntDecodesRow : OpenClaim := { program := "yteemjhnlnjkjcaa", sum := "c8a0d7604191f62e092c5d8f17488367f20e4b559bab121c3f9c29563405a72e", func := "ashlar/ashlarlaw08.DirentDecodes", spec := "direntDecodes", inPlace := ["internal/bytealg.IndexByteString"], apart := false }
def DirentDecodesSaid : Prop := direntDecodesRow.holds Try.pinned (OpenSpec.ofChange direntDecodesSpec)

/-- ITS FALSE NEIGHBOUR: 'it returns false'. Refute it at one input. -/
def direntDecodesWrong : ChangeSpec := { name := "direntDecodes", fn := fun _ => fun
  | [d] => { results := [.lit (.bool false)], args := [d] }
  | _ => none }
def DirentDecodesWrongFalsely : Prop := direntDecodesRow.holds Try.pinned (OpenSpec.ofChange direntDecodesWrong)

/-- 'ashlarlaw08.DirentOnce': WHATEVER THE INPUT: true; the input reads as it did. -/
def direntOnceSpec : ChangeSpec := { name := "direntOnce", fn := fun _ => fun
  | [d1, d2, d3] => { results := [.lit (.bool true)], args := [d1, d2, d3] }
  | _ => none }
def direntOnceRow : OpenClaim := { program := "yteemjhnlnjkjcaa", sum := "c8a0d7604191f62e092c5d8f17488367f20e4b559bab121c3f9c29563405a72e", func := "ashlar/ashlarlaw08.DirentOnce", spec := "direntOnce", inPlace := ["internal/bytealg.IndexByteString"], apart := false }
def DirentOnceSaid : Prop := direntOnceRow.holds Try.pinned (OpenSpec.ofChange direntOnceSpec)

/-- ITS FALSE NEIGHBOUR: 'it returns false'. Refute it at one input. -/
def direntOnceWrong : ChangeSpec := { name := "direntOnce", fn := fun _ => fun
  | [d1, d2, d3] => { results := [.lit (.bool false)], args := [d1, d2, d3] }
  | _ => none }
def DirentOnceWrongFalsely : Prop := direntOnceRow.holds Try.pinned (OpenSpec.ofChange direntOnceWrong)

/- THE SECOND FORM. 'bulk': how many values and letters a reading holds, each counted each time it is reached (what is shared counts as often as it is met; a slice's spare places count too). A statement '..UptoSaid' is the law's where the arguments, and the package variables that the reading takes, are together of bulk at most 1048576: NARROWER than '..Said'. Prove '..Said' where nothing that the law and all that it calls make is longer than what came in: it says more and counts as full. Else prove '..UptoSaid'. A law counts once. -/
mutual
def uptoBulk {H : Type} : DataW H → Nat
  | .lit (.string bytes) => bytes.length + 1
  | .lit _ => 1
  | .nil => 1
  | .ptr d => uptoBulk d + 1
  | .slice elems spare => uptoBulkAll elems + uptoBulkAll spare + 1
  | .agg parts => uptoBulkAll parts + 1
  | .iface _ d => uptoBulk d + 1
  | .map entries => uptoBulkEntries entries + 1
  | .held _ => 1
def uptoBulkAll {H : Type} : List (DataW H) → Nat
  | [] => 0
  | d :: r => uptoBulk d + uptoBulkAll r
def uptoBulkEntries {H : Type} : List (Lit × DataW H) → Nat
  | [] => 0
  | x :: r => uptoBulkEntry x + uptoBulkEntries r
def uptoBulkEntry {H : Type} : Lit × DataW H → Nat
  | (.string bytes, d) => bytes.length + uptoBulk d + 1
  | (_, d) => uptoBulk d + 1
 end
def uptoSmall : (H : Type) → List (DataW H) → Bool := fun _ ds => decide (uptoBulkAll ds ≤ 1048576)
def OpenSpec.upto (s : _root_.Go.ChangeSpec) : _root_.Go.OpenSpec := { _root_.Go.OpenSpec.ofChange s with cond := some uptoSmall }

/-- 'ashlarlaw08.DirentEncodes', WHERE WHAT IT READS IS OF BULK AT MOST 1048576: true; the input reads as it did. -/
def direntEncodesUptoRow : OpenClaim := { program := "yteemjhnlnjkjcaa", sum := "c8a0d7604191f62e092c5d8f17488367f20e4b559bab121c3f9c29563405a72e", func := "ashlar/ashlarlaw08.DirentEncodes", spec := "direntEncodes", inPlace := ["internal/bytealg.IndexByteString"], apart := false, narrowed := true }
def DirentEncodesUptoSaid : Prop := direntEncodesUptoRow.holds Try.pinned (OpenSpec.upto direntEncodesSpec)

/-- 'ashlarlaw08.DirentDecodes', WHERE WHAT IT READS IS OF BULK AT MOST 1048576: true; the input reads as it did. -/
def direntDecodesUptoRow : OpenClaim := { program := "yteemjhnlnjkjcaa", sum := "c8a0d7604191f62e092c5d8f17488367f20e4b559bab121c3f9c29563405a72e", func := "ashlar/ashlarlaw08.DirentDecodes", spec := "direntDecodes", inPlace := ["internal/bytealg.IndexByteString"], apart := false, narrowed := true }
def DirentDecodesUptoSaid : Prop := direntDecodesUptoRow.holds Try.pinned (OpenSpec.upto direntDecodesSpec)

/-- 'ashlarlaw08.DirentOnce', WHERE WHAT IT READS IS OF BULK AT MOST 1048576: true; the input reads as it did. -/
def direntOnceUptoRow : OpenClaim := { program := "yteemjhnlnjkjcaa", sum := "c8a0d7604191f62e092c5d8f17488367f20e4b559bab121c3f9c29563405a72e", func := "ashlar/ashlarlaw08.DirentOnce", spec := "direntOnce", inPlace := ["internal/bytealg.IndexByteString"], apart := false, narrowed := true }
def DirentOnceUptoSaid : Prop := direntOnceUptoRow.holds Try.pinned (OpenSpec.upto direntOnceSpec)

end Rows
end Go.Proofs.Yteemjhnlnjkjcaa
