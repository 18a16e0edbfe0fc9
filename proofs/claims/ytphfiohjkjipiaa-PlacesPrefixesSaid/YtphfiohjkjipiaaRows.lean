/-
  No cell of these rows narrows 'for every input' (looked for: loops, veiled, ifaces, maps, wideKeys, modest, calm, conditions, laid).
  DERIVED. THE GIVEN ROWS OF THIS SEAT. 6 by the template 'for every input the law returns true; each argument reads behind the call as it read before'; 0 by the template 'total and deterministic' (their statements: YtphfiohjkjipiaaTotals.lean).
  GIVEN WITH THE SEED: the statements are not yours to turn. If you find one false, say at which input.
  Laid BY PROGRAM, IN A SANDBOX (cutbox-rows.mjs): the forced cells as the released guide's own fill.sh prints them over the translation a6fa70c0d9400444… (all of the seat's roots in one cut). By AI agents, Wed Nov 11 2026. No macro, syntax, notation, axiom, sorry.
-/
import Derived.Test.YtphfiohjkjipiaaChecked
import GoSem.Claim
import GoSem.ClaimJoined
import GoSem.ClaimMapViews
import Derived.JoinedTies
import Derived.KernelRfl
namespace Go.Proofs.Ytphfiohjkjipiaa
/- THE CELL 'sum', in the pinned program and in every row, IS THE sha256 OF THE DUMP (.gsa) THAT YtphfiohjkjipiaaProg.lean LOADS. Nothing in Lean hashes anything: it is a label: what it is worth is what the hold of that sum in a sandbox is worth. -/
noncomputable def Try.pinned : Pinned := { name := "ytphfiohjkjipiaa", sum := "a6fa70c0d9400444bdd4c07df4071375295b9195175c148dc4dd7e491510fa0f", checked := Try.checked }
namespace Rows
def none {H : Type} : Left H := { results := [], args := [] }

/-- 'mirtowerlaw08.PlacesChecks': WHATEVER THE INPUT: true; the input reads as it did. -/
def placesChecksSpec : ChangeSpec := { name := "placesChecks", fn := fun _ => fun
  | [d] => { results := [.lit (.bool true)], args := [d] }
  | _ => none }
def placesChecksRow : OpenClaim := { program := "ytphfiohjkjipiaa", sum := "a6fa70c0d9400444bdd4c07df4071375295b9195175c148dc4dd7e491510fa0f", func := "mirtower/mirtowerlaw08.PlacesChecks", spec := "placesChecks", unfollowed := true, recurses := true, apart := false }
def PlacesChecksSaid : Prop := placesChecksRow.holds Try.pinned (OpenSpec.ofChange placesChecksSpec)

/-- ITS FALSE NEIGHBOUR: 'it returns false'. Refute it at one input. -/
def placesChecksWrong : ChangeSpec := { name := "placesChecks", fn := fun _ => fun
  | [d] => { results := [.lit (.bool false)], args := [d] }
  | _ => none }
def PlacesChecksWrongFalsely : Prop := placesChecksRow.holds Try.pinned (OpenSpec.ofChange placesChecksWrong)

/-- 'mirtowerlaw08.PlacesTypes': WHATEVER THE INPUT: true; the input reads as it did. -/
def placesTypesSpec : ChangeSpec := { name := "placesTypes", fn := fun _ => fun
  | [d1, d2, d3] => { results := [.lit (.bool true)], args := [d1, d2, d3] }
  | _ => none }
def placesTypesRow : OpenClaim := { program := "ytphfiohjkjipiaa", sum := "a6fa70c0d9400444bdd4c07df4071375295b9195175c148dc4dd7e491510fa0f", func := "mirtower/mirtowerlaw08.PlacesTypes", spec := "placesTypes", unfollowed := true, recurses := true, apart := false }
def PlacesTypesSaid : Prop := placesTypesRow.holds Try.pinned (OpenSpec.ofChange placesTypesSpec)

/-- ITS FALSE NEIGHBOUR: 'it returns false'. Refute it at one input. -/
def placesTypesWrong : ChangeSpec := { name := "placesTypes", fn := fun _ => fun
  | [d1, d2, d3] => { results := [.lit (.bool false)], args := [d1, d2, d3] }
  | _ => none }
def PlacesTypesWrongFalsely : Prop := placesTypesRow.holds Try.pinned (OpenSpec.ofChange placesTypesWrong)

/-- 'mirtowerlaw08.PlacesCompare': WHATEVER THE INPUT: true; the input reads as it did. -/
def placesCompareSpec : ChangeSpec := { name := "placesCompare", fn := fun _ => fun
  | [d1, d2, d3] => { results := [.lit (.bool true)], args := [d1, d2, d3] }
  | _ => none }
def placesCompareRow : OpenClaim := { program := "ytphfiohjkjipiaa", sum := "a6fa70c0d9400444bdd4c07df4071375295b9195175c148dc4dd7e491510fa0f", func := "mirtower/mirtowerlaw08.PlacesCompare", spec := "placesCompare", unfollowed := true, recurses := true, apart := false }
def PlacesCompareSaid : Prop := placesCompareRow.holds Try.pinned (OpenSpec.ofChange placesCompareSpec)

/-- ITS FALSE NEIGHBOUR: 'it returns false'. Refute it at one input. -/
def placesCompareWrong : ChangeSpec := { name := "placesCompare", fn := fun _ => fun
  | [d1, d2, d3] => { results := [.lit (.bool false)], args := [d1, d2, d3] }
  | _ => none }
def PlacesCompareWrongFalsely : Prop := placesCompareRow.holds Try.pinned (OpenSpec.ofChange placesCompareWrong)

/-- 'mirtowerlaw08.PlacesOrder': WHATEVER THE INPUT: true; the input reads as it did. -/
def placesOrderSpec : ChangeSpec := { name := "placesOrder", fn := fun _ => fun
  | [d1, d2, d3] => { results := [.lit (.bool true)], args := [d1, d2, d3] }
  | _ => none }
def placesOrderRow : OpenClaim := { program := "ytphfiohjkjipiaa", sum := "a6fa70c0d9400444bdd4c07df4071375295b9195175c148dc4dd7e491510fa0f", func := "mirtower/mirtowerlaw08.PlacesOrder", spec := "placesOrder", unfollowed := true, recurses := true, apart := false }
def PlacesOrderSaid : Prop := placesOrderRow.holds Try.pinned (OpenSpec.ofChange placesOrderSpec)

/-- ITS FALSE NEIGHBOUR: 'it returns false'. Refute it at one input. -/
def placesOrderWrong : ChangeSpec := { name := "placesOrder", fn := fun _ => fun
  | [d1, d2, d3] => { results := [.lit (.bool false)], args := [d1, d2, d3] }
  | _ => none }
def PlacesOrderWrongFalsely : Prop := placesOrderRow.holds Try.pinned (OpenSpec.ofChange placesOrderWrong)

/-- 'mirtowerlaw08.PlacesPrefixes': WHATEVER THE INPUT: true; the input reads as it did. -/
def placesPrefixesSpec : ChangeSpec := { name := "placesPrefixes", fn := fun _ => fun
  | [d1, d2, d3] => { results := [.lit (.bool true)], args := [d1, d2, d3] }
  | _ => none }
def placesPrefixesRow : OpenClaim := { program := "ytphfiohjkjipiaa", sum := "a6fa70c0d9400444bdd4c07df4071375295b9195175c148dc4dd7e491510fa0f", func := "mirtower/mirtowerlaw08.PlacesPrefixes", spec := "placesPrefixes", unfollowed := true, recurses := true, apart := false }
def PlacesPrefixesSaid : Prop := placesPrefixesRow.holds Try.pinned (OpenSpec.ofChange placesPrefixesSpec)

/-- ITS FALSE NEIGHBOUR: 'it returns false'. Refute it at one input. -/
def placesPrefixesWrong : ChangeSpec := { name := "placesPrefixes", fn := fun _ => fun
  | [d1, d2, d3] => { results := [.lit (.bool false)], args := [d1, d2, d3] }
  | _ => none }
def PlacesPrefixesWrongFalsely : Prop := placesPrefixesRow.holds Try.pinned (OpenSpec.ofChange placesPrefixesWrong)

/-- 'mirtowerlaw08.PlacesProject': WHATEVER THE INPUT: true; the input reads as it did. -/
def placesProjectSpec : ChangeSpec := { name := "placesProject", fn := fun _ => fun
  | [d1, d2, d3] => { results := [.lit (.bool true)], args := [d1, d2, d3] }
  | _ => none }
def placesProjectRow : OpenClaim := { program := "ytphfiohjkjipiaa", sum := "a6fa70c0d9400444bdd4c07df4071375295b9195175c148dc4dd7e491510fa0f", func := "mirtower/mirtowerlaw08.PlacesProject", spec := "placesProject", unfollowed := true, recurses := true, apart := false }
def PlacesProjectSaid : Prop := placesProjectRow.holds Try.pinned (OpenSpec.ofChange placesProjectSpec)

/-- ITS FALSE NEIGHBOUR: 'it returns false'. Refute it at one input. -/
def placesProjectWrong : ChangeSpec := { name := "placesProject", fn := fun _ => fun
  | [d1, d2, d3] => { results := [.lit (.bool false)], args := [d1, d2, d3] }
  | _ => none }
def PlacesProjectWrongFalsely : Prop := placesProjectRow.holds Try.pinned (OpenSpec.ofChange placesProjectWrong)

/- THE SECOND FORM. 'bulk': how many values and letters a reading holds, each counted each time it is reached (what is shared counts as often as it is met; a slice's spare places count too). A statement '..UptoSaid' is the law's where the arguments, and the package variables that the reading takes, are together of bulk at most 1048576: NARROWER than '..Said'. Prove '..Said' where nothing that the law and all that it calls make is longer than what came in: it says more and counts as full. Else prove '..UptoSaid'. A law counts once. -/
mutual
def uptoBulk {H : Type} : DataW H → Nat
  | .lit (.string bytes) => bytes.length + 1
  | .lit _ => 1
  | .nil => 1
  | .ptr d => uptoBulk d + 1
  | .slice elems spare => uptoBulkAll elems + uptoBulkAll spare + 1
  | .agg parts => uptoBulkAll parts + 1
  | .iface _ d => uptoBulk d + 1
  | .map entries => uptoBulkEntries entries + 1
  | .held _ => 1
def uptoBulkAll {H : Type} : List (DataW H) → Nat
  | [] => 0
  | d :: r => uptoBulk d + uptoBulkAll r
def uptoBulkEntries {H : Type} : List (Lit × DataW H) → Nat
  | [] => 0
  | x :: r => uptoBulkEntry x + uptoBulkEntries r
def uptoBulkEntry {H : Type} : Lit × DataW H → Nat
  | (.string bytes, d) => bytes.length + uptoBulk d + 1
  | (_, d) => uptoBulk d + 1
 end
def uptoSmall : (H : Type) → List (DataW H) → Bool := fun _ ds => decide (uptoBulkAll ds ≤ 1048576)
def OpenSpec.upto (s : _root_.Go.ChangeSpec) : _root_.Go.OpenSpec := { _root_.Go.OpenSpec.ofChange s with cond := some uptoSmall }

/-- 'mirtowerlaw08.PlacesChecks', WHERE WHAT IT READS IS OF BULK AT MOST 1048576: true; the input reads as it did. -/
def placesChecksUptoRow : OpenClaim := { program := "ytphfiohjkjipiaa", sum := "a6fa70c0d9400444bdd4c07df4071375295b9195175c148dc4dd7e491510fa0f", func := "mirtower/mirtowerlaw08.PlacesChecks", spec := "placesChecks", unfollowed := true, recurses := true, apart := false, narrowed := true }
def PlacesChecksUptoSaid : Prop := placesChecksUptoRow.holds Try.pinned (OpenSpec.upto placesChecksSpec)

/-- 'mirtowerlaw08.PlacesTypes', WHERE WHAT IT READS IS OF BULK AT MOST 1048576: true; the input reads as it did. -/
def placesTypesUptoRow : OpenClaim := { program := "ytphfiohjkjipiaa", sum := "a6fa70c0d9400444bdd4c07df4071375295b9195175c148dc4dd7e491510fa0f", func := "mirtower/mirtowerlaw08.PlacesTypes", spec := "placesTypes", unfollowed := true, recurses := true, apart := false, narrowed := true }
def PlacesTypesUptoSaid : Prop := placesTypesUptoRow.holds Try.pinned (OpenSpec.upto placesTypesSpec)

/-- 'mirtowerlaw08.PlacesCompare', WHERE WHAT IT READS IS OF BULK AT MOST 1048576: true; the input reads as it did. -/
def placesCompareUptoRow : OpenClaim := { program := "ytphfiohjkjipiaa", sum := "a6fa70c0d9400444bdd4c07df4071375295b9195175c148dc4dd7e491510fa0f", func := "mirtower/mirtowerlaw08.PlacesCompare", spec := "placesCompare", unfollowed := true, recurses := true, apart := false, narrowed := true }
def PlacesCompareUptoSaid : Prop := placesCompareUptoRow.holds Try.pinned (OpenSpec.upto placesCompareSpec)

/-- 'mirtowerlaw08.PlacesOrder', WHERE WHAT IT READS IS OF BULK AT MOST 1048576: true; the input reads as it did. -/
def placesOrderUptoRow : OpenClaim := { program := "ytphfiohjkjipiaa", sum := "a6fa70c0d9400444bdd4c07df4071375295b9195175c148dc4dd7e491510fa0f", func := "mirtower/mirtowerlaw08.PlacesOrder", spec := "placesOrder", unfollowed := true, recurses := true, apart := false, narrowed := true }
def PlacesOrderUptoSaid : Prop := placesOrderUptoRow.holds Try.pinned (OpenSpec.upto placesOrderSpec)

/-- 'mirtowerlaw08.PlacesPrefixes', WHERE WHAT IT READS IS OF BULK AT MOST 1048576: true; the input reads as it did. -/
def placesPrefixesUptoRow : OpenClaim := { program := "ytphfiohjkjipiaa", sum := "a6fa70c0d9400444bdd4c07df4071375295b9195175c148dc4dd7e491510fa0f", func := "mirtower/mirtowerlaw08.PlacesPrefixes", spec := "placesPrefixes", unfollowed := true, recurses := true, apart := false, narrowed := true }
def PlacesPrefixesUptoSaid : Prop := placesPrefixesUptoRow.holds Try.pinned (OpenSpec.upto placesPrefixesSpec)

/-- 'mirtowerlaw08.PlacesProject', WHERE WHAT IT READS IS OF BULK AT MOST 1048576: true; the input reads as it did. -/
def placesProjectUptoRow : OpenClaim := { program := "ytphfiohjkjipiaa", sum := "a6fa70c0d9400444bdd4c07df4071375295b9195175c148dc4dd7e491510fa0f", func := "mirtower/mirtowerlaw08.PlacesProject", spec := "placesProject", unfollowed := true, recurses := true, apart := false, narrowed := true }
def PlacesProjectUptoSaid : Prop := placesProjectUptoRow.holds Try.pinned (OpenSpec.upto placesProjectSpec)

end Rows
end Go.Proofs.Ytphfiohjkjipiaa
