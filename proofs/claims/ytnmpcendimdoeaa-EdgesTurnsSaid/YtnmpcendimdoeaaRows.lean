/-
  No cell of these rows narrows 'for every input' (looked for: loops, veiled, ifaces, maps, wideKeys, modest, calm, conditions, laid).
  DERIVED. THE GIVEN ROWS OF THIS SEAT. 3 by the template 'for every input the law returns true; each argument reads behind the call as it read before'; 0 by the template 'total and deterministic' (their statements: YtnmpcendimdoeaaTotals.lean).
  GIVEN WITH THE SEED: the statements are not yours to turn. If you find one false, say at which input.
  Laid BY PROGRAM, IN A SANDBOX (cutbox-rows.mjs): the forced cells as the released guide's own fill.sh prints them over the translation c7cf2bdef3c2fedb… (all of the seat's roots in one cut). By AI agents, Wed Nov 11 2026. No macro, syntax, notation, axiom, sorry.
-/
import Derived.Test.YtnmpcendimdoeaaChecked
import GoSem.Claim
import GoSem.ClaimJoined
import GoSem.ClaimMapViews
import Derived.JoinedTies
import Derived.KernelRfl
namespace Go.Proofs.Ytnmpcendimdoeaa
/- THE CELL 'sum', in the pinned program and in every row, IS THE sha256 OF THE DUMP (.gsa) THAT YtnmpcendimdoeaaProg.lean LOADS. Nothing in Lean hashes anything: it is a label: what it is worth is what the hold of that sum in a sandbox is worth. -/
noncomputable def Try.pinned : Pinned := { name := "ytnmpcendimdoeaa", sum := "c7cf2bdef3c2fedbf85a6388f62055f0d3cc1d22c89b7f776f39d77df91e3139", checked := Try.checked }
namespace Rows
def none {H : Type} : Left H := { results := [], args := [] }

/-- 'ladinglaw04.EdgesTurns': WHATEVER THE INPUT: true; the input reads as it did. -/
def edgesTurnsSpec : ChangeSpec := { name := "edgesTurns", fn := fun _ => fun
  | [d1, d2, d3] => { results := [.lit (.bool true)], args := [d1, d2, d3] }
  | _ => none }
def edgesTurnsRow : OpenClaim := { program := "ytnmpcendimdoeaa", sum := "c7cf2bdef3c2fedbf85a6388f62055f0d3cc1d22c89b7f776f39d77df91e3139", func := "lading/ladinglaw04.EdgesTurns", spec := "edgesTurns", unfollowed := true, recurses := true, apart := false }
def EdgesTurnsSaid : Prop := edgesTurnsRow.holds Try.pinned (OpenSpec.ofChange edgesTurnsSpec)

/-- ITS FALSE NEIGHBOUR: 'it returns false'. Refute it at one input. -/
def edgesTurnsWrong : ChangeSpec := { name := "edgesTurns", fn := fun _ => fun
  | [d1, d2, d3] => { results := [.lit (.bool false)], args := [d1, d2, d3] }
  | _ => none }
def EdgesTurnsWrongFalsely : Prop := edgesTurnsRow.holds Try.pinned (OpenSpec.ofChange edgesTurnsWrong)

/-- 'ladinglaw04.EdgesMerge': WHATEVER THE INPUT: true; the input reads as it did. -/
def edgesMergeSpec : ChangeSpec := { name := "edgesMerge", fn := fun _ => fun
  | [d1, d2, d3] => { results := [.lit (.bool true)], args := [d1, d2, d3] }
  | _ => none }
def edgesMergeRow : OpenClaim := { program := "ytnmpcendimdoeaa", sum := "c7cf2bdef3c2fedbf85a6388f62055f0d3cc1d22c89b7f776f39d77df91e3139", func := "lading/ladinglaw04.EdgesMerge", spec := "edgesMerge", unfollowed := true, recurses := true, apart := false }
def EdgesMergeSaid : Prop := edgesMergeRow.holds Try.pinned (OpenSpec.ofChange edgesMergeSpec)

/-- ITS FALSE NEIGHBOUR: 'it returns false'. Refute it at one input. -/
def edgesMergeWrong : ChangeSpec := { name := "edgesMerge", fn := fun _ => fun
  | [d1, d2, d3] => { results := [.lit (.bool false)], args := [d1, d2, d3] }
  | _ => none }
def EdgesMergeWrongFalsely : Prop := edgesMergeRow.holds Try.pinned (OpenSpec.ofChange edgesMergeWrong)

/-- 'ladinglaw04.EdgesDegrees': WHATEVER THE INPUT: true; the input reads as it did. -/
def edgesDegreesSpec : ChangeSpec := { name := "edgesDegrees", fn := fun _ => fun
  | [d1, d2] => { results := [.lit (.bool true)], args := [d1, d2] }
  | _ => none }
def edgesDegreesRow : OpenClaim := { program := "ytnmpcendimdoeaa", sum := "c7cf2bdef3c2fedbf85a6388f62055f0d3cc1d22c89b7f776f39d77df91e3139", func := "lading/ladinglaw04.EdgesDegrees", spec := "edgesDegrees", unfollowed := true, recurses := true, apart := false }
def EdgesDegreesSaid : Prop := edgesDegreesRow.holds Try.pinned (OpenSpec.ofChange edgesDegreesSpec)

/-- ITS FALSE NEIGHBOUR: 'it returns false'. Refute it at one input. -/
def edgesDegreesWrong : ChangeSpec := { name := "edgesDegrees", fn := fun _ => fun
  | [d1, d2] => { results := [.lit (.bool false)], args := [d1, d2] }
  | _ => none }
def EdgesDegreesWrongFalsely : Prop := edgesDegreesRow.holds Try.pinned (OpenSpec.ofChange edgesDegreesWrong)

/- THE SECOND FORM. 'bulk': how many values and letters a reading holds, each counted each time it is reached (what is shared counts as often as it is met; a slice's spare places count too). A statement '..UptoSaid' is the law's where the arguments, and the package variables that the reading takes, are together of bulk at most 1048576: NARROWER than '..Said'. Prove '..Said' where nothing that the law and all that it calls make is longer than what came in: it says more and counts as full. Else prove '..UptoSaid'. A law counts once. -/
mutual
def uptoBulk {H : Type} : DataW H → Nat
  | .lit (.string bytes) => bytes.length + 1
  | .lit _ => 1
  | .nil => 1
  | .ptr d => uptoBulk d + 1
  | .slice elems spare => uptoBulkAll elems + uptoBulkAll spare + 1
  | .agg parts => uptoBulkAll parts + 1
  | .iface _ d => uptoBulk d + 1
  | .map entries => uptoBulkEntries entries + 1
  | .held _ => 1
def uptoBulkAll {H : Type} : List (DataW H) → Nat
  | [] => 0
  | d :: r => uptoBulk d + uptoBulkAll r
def uptoBulkEntries {H : Type} : List (Lit × DataW H) → Nat
  | [] => 0
  | x :: r => uptoBulkEntry x + uptoBulkEntries r
def uptoBulkEntry {H : Type} : Lit × DataW H → Nat
  | (.string bytes, d) => bytes.length + uptoBulk d + 1
  | (_, d) => uptoBulk d + 1
 end
def uptoSmall : (H : Type) → List (DataW H) → Bool := fun _ ds => decide (uptoBulkAll ds ≤ 1048576)
def OpenSpec.upto (s : _root_.Go.ChangeSpec) : _root_.Go.OpenSpec := { _root_.Go.OpenSpec.ofChange s with cond := some uptoSmall }

/-- 'ladinglaw04.EdgesTurns', WHERE WHAT IT READS IS OF BULK AT MOST 1048576: true; the input reads as it did. -/
def edgesTurnsUptoRow : OpenClaim := { program := "ytnmpcendimdoeaa", sum := "c7cf2bdef3c2fedbf85a6388f62055f0d3cc1d22c89b7f776f39d77df91e3139", func := "lading/ladinglaw04.EdgesTurns", spec := "edgesTurns", unfollowed := true, recurses := true, apart := false, narrowed := true }
def EdgesTurnsUptoSaid : Prop := edgesTurnsUptoRow.holds Try.pinned (OpenSpec.upto edgesTurnsSpec)

/-- 'ladinglaw04.EdgesMerge', WHERE WHAT IT READS IS OF BULK AT MOST 1048576: true; the input reads as it did. -/
def edgesMergeUptoRow : OpenClaim := { program := "ytnmpcendimdoeaa", sum := "c7cf2bdef3c2fedbf85a6388f62055f0d3cc1d22c89b7f776f39d77df91e3139", func := "lading/ladinglaw04.EdgesMerge", spec := "edgesMerge", unfollowed := true, recurses := true, apart := false, narrowed := true }
def EdgesMergeUptoSaid : Prop := edgesMergeUptoRow.holds Try.pinned (OpenSpec.upto edgesMergeSpec)

/-- 'ladinglaw04.EdgesDegrees', WHERE WHAT IT READS IS OF BULK AT MOST 1048576: true; the input reads as it did. -/
def edgesDegreesUptoRow : OpenClaim := { program := "ytnmpcendimdoeaa", sum := "c7cf2bdef3c2fedbf85a6388f62055f0d3cc1d22c89b7f776f39d77df91e3139", func := "lading/ladinglaw04.EdgesDegrees", spec := "edgesDegrees", unfollowed := true, recurses := true, apart := false, narrowed := true }
def EdgesDegreesUptoSaid : Prop := edgesDegreesUptoRow.holds Try.pinned (OpenSpec.upto edgesDegreesSpec)

end Rows
end Go.Proofs.Ytnmpcendimdoeaa
