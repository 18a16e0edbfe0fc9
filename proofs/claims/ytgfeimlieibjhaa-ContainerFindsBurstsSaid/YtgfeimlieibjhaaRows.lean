/-
  No cell of these rows narrows 'for every input' (looked for: loops, veiled, ifaces, maps, wideKeys, modest, calm, conditions, laid).
  DERIVED. THE GIVEN ROWS OF THIS SEAT. 6 by the template 'for every input the law returns true; each argument reads behind the call as it read before'; 0 by the template 'total and deterministic' (their statements: YtgfeimlieibjhaaTotals.lean).
  GIVEN WITH THE SEED: the statements are not yours to turn. If you find one false, say at which input.
  Laid BY PROGRAM, IN A SANDBOX (cutbox-rows.mjs): the forced cells as the released guide's own fill.sh prints them over the translation 132743b14e6d37f4… (all of the seat's roots in one cut). By AI agents, Wed Nov 11 2026. No macro, syntax, notation, axiom, sorry.
-/
import Derived.Test.YtgfeimlieibjhaaChecked
import GoSem.Claim
import GoSem.ClaimJoined
import GoSem.ClaimMapViews
import Derived.JoinedTies
import Derived.KernelRfl
namespace Go.Proofs.Ytgfeimlieibjhaa
/- THE CELL 'sum', in the pinned program and in every row, IS THE sha256 OF THE DUMP (.gsa) THAT YtgfeimlieibjhaaProg.lean LOADS. Nothing in Lean hashes anything: it is a label: what it is worth is what the hold of that sum in a sandbox is worth. -/
noncomputable def Try.pinned : Pinned := { name := "ytgfeimlieibjhaa", sum := "132743b14e6d37f4a5750d2a3d5651d793ff9800b6d4a07ac200c2113ae391f7", checked := Try.checked }
namespace Rows
def none {H : Type} : Left H := { results := [], args := [] }

/-- 'mirtowerlaw04.ContainerWrites': WHATEVER THE INPUT: true; the input reads as it did. -/
def containerWritesSpec : ChangeSpec := { name := "containerWrites", fn := fun _ => fun
  | [d] => { results := [.lit (.bool true)], args := [d] }
  | _ => none }
def containerWritesRow : OpenClaim := { program := "ytgfeimlieibjhaa", sum := "132743b14e6d37f4a5750d2a3d5651d793ff9800b6d4a07ac200c2113ae391f7", func := "mirtower/mirtowerlaw04.ContainerWrites", spec := "containerWrites", unfollowed := true, recurses := true, apart := false }
def ContainerWritesSaid : Prop := containerWritesRow.holds Try.pinned (OpenSpec.ofChange containerWritesSpec)

/-- ITS FALSE NEIGHBOUR: 'it returns false'. Refute it at one input. -/
def containerWritesWrong : ChangeSpec := { name := "containerWrites", fn := fun _ => fun
  | [d] => { results := [.lit (.bool false)], args := [d] }
  | _ => none }
def ContainerWritesWrongFalsely : Prop := containerWritesRow.holds Try.pinned (OpenSpec.ofChange containerWritesWrong)

/-- 'mirtowerlaw04.ContainerReads': WHATEVER THE INPUT: true; the input reads as it did. -/
def containerReadsSpec : ChangeSpec := { name := "containerReads", fn := fun _ => fun
  | [d] => { results := [.lit (.bool true)], args := [d] }
  | _ => none }
def containerReadsRow : OpenClaim := { program := "ytgfeimlieibjhaa", sum := "132743b14e6d37f4a5750d2a3d5651d793ff9800b6d4a07ac200c2113ae391f7", func := "mirtower/mirtowerlaw04.ContainerReads", spec := "containerReads", unfollowed := true, recurses := true, apart := false }
def ContainerReadsSaid : Prop := containerReadsRow.holds Try.pinned (OpenSpec.ofChange containerReadsSpec)

/-- ITS FALSE NEIGHBOUR: 'it returns false'. Refute it at one input. -/
def containerReadsWrong : ChangeSpec := { name := "containerReads", fn := fun _ => fun
  | [d] => { results := [.lit (.bool false)], args := [d] }
  | _ => none }
def ContainerReadsWrongFalsely : Prop := containerReadsRow.holds Try.pinned (OpenSpec.ofChange containerReadsWrong)

/-- 'mirtowerlaw04.ContainerRoundTrip': WHATEVER THE INPUT: true; the input reads as it did. -/
def containerRoundTripSpec : ChangeSpec := { name := "containerRoundTrip", fn := fun _ => fun
  | [d] => { results := [.lit (.bool true)], args := [d] }
  | _ => none }
def containerRoundTripRow : OpenClaim := { program := "ytgfeimlieibjhaa", sum := "132743b14e6d37f4a5750d2a3d5651d793ff9800b6d4a07ac200c2113ae391f7", func := "mirtower/mirtowerlaw04.ContainerRoundTrip", spec := "containerRoundTrip", unfollowed := true, recurses := true, apart := false }
def ContainerRoundTripSaid : Prop := containerRoundTripRow.holds Try.pinned (OpenSpec.ofChange containerRoundTripSpec)

/-- ITS FALSE NEIGHBOUR: 'it returns false'. Refute it at one input. -/
def containerRoundTripWrong : ChangeSpec := { name := "containerRoundTrip", fn := fun _ => fun
  | [d] => { results := [.lit (.bool false)], args := [d] }
  | _ => none }
def ContainerRoundTripWrongFalsely : Prop := containerRoundTripRow.holds Try.pinned (OpenSpec.ofChange containerRoundTripWrong)

/-- 'mirtowerlaw04.ContainerIsCanonical': WHATEVER THE INPUT: true; the input reads as it did. -/
def containerIsCanonicalSpec : ChangeSpec := { name := "containerIsCanonical", fn := fun _ => fun
  | [d] => { results := [.lit (.bool true)], args := [d] }
  | _ => none }
def containerIsCanonicalRow : OpenClaim := { program := "ytgfeimlieibjhaa", sum := "132743b14e6d37f4a5750d2a3d5651d793ff9800b6d4a07ac200c2113ae391f7", func := "mirtower/mirtowerlaw04.ContainerIsCanonical", spec := "containerIsCanonical", unfollowed := true, recurses := true, apart := false }
def ContainerIsCanonicalSaid : Prop := containerIsCanonicalRow.holds Try.pinned (OpenSpec.ofChange containerIsCanonicalSpec)

/-- ITS FALSE NEIGHBOUR: 'it returns false'. Refute it at one input. -/
def containerIsCanonicalWrong : ChangeSpec := { name := "containerIsCanonical", fn := fun _ => fun
  | [d] => { results := [.lit (.bool false)], args := [d] }
  | _ => none }
def ContainerIsCanonicalWrongFalsely : Prop := containerIsCanonicalRow.holds Try.pinned (OpenSpec.ofChange containerIsCanonicalWrong)

/-- 'mirtowerlaw04.ContainerFindsBursts': WHATEVER THE INPUT: true; the input reads as it did. -/
def containerFindsBurstsSpec : ChangeSpec := { name := "containerFindsBursts", fn := fun _ => fun
  | [d1, d2, d3] => { results := [.lit (.bool true)], args := [d1, d2, d3] }
  | _ => none }
def containerFindsBurstsRow : OpenClaim := { program := "ytgfeimlieibjhaa", sum := "132743b14e6d37f4a5750d2a3d5651d793ff9800b6d4a07ac200c2113ae391f7", func := "mirtower/mirtowerlaw04.ContainerFindsBursts", spec := "containerFindsBursts", unfollowed := true, recurses := true, apart := false }
def ContainerFindsBurstsSaid : Prop := containerFindsBurstsRow.holds Try.pinned (OpenSpec.ofChange containerFindsBurstsSpec)

/-- ITS FALSE NEIGHBOUR: 'it returns false'. Refute it at one input. -/
def containerFindsBurstsWrong : ChangeSpec := { name := "containerFindsBursts", fn := fun _ => fun
  | [d1, d2, d3] => { results := [.lit (.bool false)], args := [d1, d2, d3] }
  | _ => none }
def ContainerFindsBurstsWrongFalsely : Prop := containerFindsBurstsRow.holds Try.pinned (OpenSpec.ofChange containerFindsBurstsWrong)

/-- 'mirtowerlaw04.ContainerRejects': WHATEVER THE INPUT: true; the input reads as it did. -/
def containerRejectsSpec : ChangeSpec := { name := "containerRejects", fn := fun _ => fun
  | [d1, d2] => { results := [.lit (.bool true)], args := [d1, d2] }
  | _ => none }
def containerRejectsRow : OpenClaim := { program := "ytgfeimlieibjhaa", sum := "132743b14e6d37f4a5750d2a3d5651d793ff9800b6d4a07ac200c2113ae391f7", func := "mirtower/mirtowerlaw04.ContainerRejects", spec := "containerRejects", unfollowed := true, recurses := true, apart := false }
def ContainerRejectsSaid : Prop := containerRejectsRow.holds Try.pinned (OpenSpec.ofChange containerRejectsSpec)

/-- ITS FALSE NEIGHBOUR: 'it returns false'. Refute it at one input. -/
def containerRejectsWrong : ChangeSpec := { name := "containerRejects", fn := fun _ => fun
  | [d1, d2] => { results := [.lit (.bool false)], args := [d1, d2] }
  | _ => none }
def ContainerRejectsWrongFalsely : Prop := containerRejectsRow.holds Try.pinned (OpenSpec.ofChange containerRejectsWrong)

/- THE SECOND FORM. 'bulk': how many values and letters a reading holds, each counted each time it is reached (what is shared counts as often as it is met; a slice's spare places count too). A statement '..UptoSaid' is the law's where the arguments, and the package variables that the reading takes, are together of bulk at most 1048576: NARROWER than '..Said'. Prove '..Said' where nothing that the law and all that it calls make is longer than what came in: it says more and counts as full. Else prove '..UptoSaid'. A law counts once. -/
mutual
def uptoBulk {H : Type} : DataW H → Nat
  | .lit (.string bytes) => bytes.length + 1
  | .lit _ => 1
  | .nil => 1
  | .ptr d => uptoBulk d + 1
  | .slice elems spare => uptoBulkAll elems + uptoBulkAll spare + 1
  | .agg parts => uptoBulkAll parts + 1
  | .iface _ d => uptoBulk d + 1
  | .map entries => uptoBulkEntries entries + 1
  | .held _ => 1
def uptoBulkAll {H : Type} : List (DataW H) → Nat
  | [] => 0
  | d :: r => uptoBulk d + uptoBulkAll r
def uptoBulkEntries {H : Type} : List (Lit × DataW H) → Nat
  | [] => 0
  | x :: r => uptoBulkEntry x + uptoBulkEntries r
def uptoBulkEntry {H : Type} : Lit × DataW H → Nat
  | (.string bytes, d) => bytes.length + uptoBulk d + 1
  | (_, d) => uptoBulk d + 1
 end
def uptoSmall : (H : Type) → List (DataW H) → Bool := fun _ ds => decide (uptoBulkAll ds ≤ 1048576)
def OpenSpec.upto (s : _root_.Go.ChangeSpec) : _root_.Go.OpenSpec := { _root_.Go.OpenSpec.ofChange s with cond := some uptoSmall }

/-- 'mirtowerlaw04.ContainerWrites', WHERE WHAT IT READS IS OF BULK AT MOST 1048576: true; the input reads as it did. -/
def containerWritesUptoRow : OpenClaim := { program := "ytgfeimlieibjhaa", sum := "132743b14e6d37f4a5750d2a3d5651d793ff9800b6d4a07ac200c2113ae391f7", func := "mirtower/mirtowerlaw04.ContainerWrites", spec := "containerWrites", unfollowed := true, recurses := true, apart := false, narrowed := true }
def ContainerWritesUptoSaid : Prop := containerWritesUptoRow.holds Try.pinned (OpenSpec.upto containerWritesSpec)

/-- 'mirtowerlaw04.ContainerReads', WHERE WHAT IT READS IS OF BULK AT MOST 1048576: true; the input reads as it did. -/
def containerReadsUptoRow : OpenClaim := { program := "ytgfeimlieibjhaa", sum := "132743b14e6d37f4a5750d2a3d5651d793ff9800b6d4a07ac200c2113ae391f7", func := "mirtower/mirtowerlaw04.ContainerReads", spec := "containerReads", unfollowed := true, recurses := true, apart := false, narrowed := true }
def ContainerReadsUptoSaid : Prop := containerReadsUptoRow.holds Try.pinned (OpenSpec.upto containerReadsSpec)

/-- 'mirtowerlaw04.ContainerRoundTrip', WHERE WHAT IT READS IS OF BULK AT MOST 1048576: true; the input reads as it did. -/
def containerRoundTripUptoRow : OpenClaim := { program := "ytgfeimlieibjhaa", sum := "132743b14e6d37f4a5750d2a3d5651d793ff9800b6d4a07ac200c2113ae391f7", func := "mirtower/mirtowerlaw04.ContainerRoundTrip", spec := "containerRoundTrip", unfollowed := true, recurses := true, apart := false, narrowed := true }
def ContainerRoundTripUptoSaid : Prop := containerRoundTripUptoRow.holds Try.pinned (OpenSpec.upto containerRoundTripSpec)

/-- 'mirtowerlaw04.ContainerIsCanonical', WHERE WHAT IT READS IS OF BULK AT MOST 1048576: true; the input reads as it did. -/
def containerIsCanonicalUptoRow : OpenClaim := { program := "ytgfeimlieibjhaa", sum := "132743b14e6d37f4a5750d2a3d5651d793ff9800b6d4a07ac200c2113ae391f7", func := "mirtower/mirtowerlaw04.ContainerIsCanonical", spec := "containerIsCanonical", unfollowed := true, recurses := true, apart := false, narrowed := true }
def ContainerIsCanonicalUptoSaid : Prop := containerIsCanonicalUptoRow.holds Try.pinned (OpenSpec.upto containerIsCanonicalSpec)

/-- 'mirtowerlaw04.ContainerFindsBursts', WHERE WHAT IT READS IS OF BULK AT MOST 1048576: true; the input reads as it did. -/
def containerFindsBurstsUptoRow : OpenClaim := { program := "ytgfeimlieibjhaa", sum := "132743b14e6d37f4a5750d2a3d5651d793ff9800b6d4a07ac200c2113ae391f7", func := "mirtower/mirtowerlaw04.ContainerFindsBursts", spec := "containerFindsBursts", unfollowed := true, recurses := true, apart := false, narrowed := true }
def ContainerFindsBurstsUptoSaid : Prop := containerFindsBurstsUptoRow.holds Try.pinned (OpenSpec.upto containerFindsBurstsSpec)

/-- 'mirtowerlaw04.ContainerRejects', WHERE WHAT IT READS IS OF BULK AT MOST 1048576: true; the input reads as it did. -/
def containerRejectsUptoRow : OpenClaim := { program := "ytgfeimlieibjhaa", sum := "132743b14e6d37f4a5750d2a3d5651d793ff9800b6d4a07ac200c2113ae391f7", func := "mirtower/mirtowerlaw04.ContainerRejects", spec := "containerRejects", unfollowed := true, recurses := true, apart := false, narrowed := true }
def ContainerRejectsUptoSaid : Prop := containerRejectsUptoRow.holds Try.pinned (OpenSpec.upto containerRejectsSpec)

end Rows
end Go.Proofs.Ytgfeimlieibjhaa
