/-
  No cell of these rows narrows 'for every input' (looked for: loops, veiled, ifaces, maps, wideKeys, modest, calm, conditions, laid).
  DERIVED. THE GIVEN ROWS OF THIS SEAT. 5 by the template 'for every input the law returns true; each argument reads behind the call as it read before'; 0 by the template 'total and deterministic' (their statements: YtbkgooeghmaokaaTotals.lean).
  GIVEN WITH THE SEED: the statements are not yours to turn. If you find one false, say at which input.
  Laid BY PROGRAM, IN A SANDBOX (cutbox-rows.mjs): the forced cells as the released guide's own fill.sh prints them over the translation 54b0dc3c134e609b… (all of the seat's roots in one cut). By AI agents, Wed Nov 11 2026. No macro, syntax, notation, axiom, sorry.
-/
import Derived.Test.YtbkgooeghmaokaaChecked
import GoSem.Claim
import GoSem.ClaimJoined
import GoSem.ClaimMapViews
import Derived.JoinedTies
import Derived.KernelRfl
namespace Go.Proofs.Ytbkgooeghmaokaa
/- THE CELL 'sum', in the pinned program and in every row, IS THE sha256 OF THE DUMP (.gsa) THAT YtbkgooeghmaokaaProg.lean LOADS. Nothing in Lean hashes anything: it is a label: what it is worth is what the hold of that sum in a sandbox is worth. -/
noncomputable def Try.pinned : Pinned := { name := "ytbkgooeghmaokaa", sum := "54b0dc3c134e609beb1e2a47ee14ea0ccbe2d2dd670279b85fbda8e44ec64049", checked := Try.checked }
namespace Rows
def none {H : Type} : Left H := { results := [], args := [] }

/-- 'mirtowerlaw05.InternIdents': WHATEVER THE INPUT: true; the input reads as it did. -/
def internIdentsSpec : ChangeSpec := { name := "internIdents", fn := fun _ => fun
  | [d] => { results := [.lit (.bool true)], args := [d] }
  | _ => none }
def internIdentsRow : OpenClaim := { program := "ytbkgooeghmaokaa", sum := "54b0dc3c134e609beb1e2a47ee14ea0ccbe2d2dd670279b85fbda8e44ec64049", func := "mirtower/mirtowerlaw05.InternIdents", spec := "internIdents", unfollowed := true, recurses := true, apart := false }
def InternIdentsSaid : Prop := internIdentsRow.holds Try.pinned (OpenSpec.ofChange internIdentsSpec)

/-- ITS FALSE NEIGHBOUR: 'it returns false'. Refute it at one input. -/
def internIdentsWrong : ChangeSpec := { name := "internIdents", fn := fun _ => fun
  | [d] => { results := [.lit (.bool false)], args := [d] }
  | _ => none }
def InternIdentsWrongFalsely : Prop := internIdentsRow.holds Try.pinned (OpenSpec.ofChange internIdentsWrong)

/-- 'mirtowerlaw05.InternMatchesReference': WHATEVER THE INPUT: true; the input reads as it did. -/
def internMatchesReferenceSpec : ChangeSpec := { name := "internMatchesReference", fn := fun _ => fun
  | [d1, d2, d3] => { results := [.lit (.bool true)], args := [d1, d2, d3] }
  | _ => none }
def internMatchesReferenceRow : OpenClaim := { program := "ytbkgooeghmaokaa", sum := "54b0dc3c134e609beb1e2a47ee14ea0ccbe2d2dd670279b85fbda8e44ec64049", func := "mirtower/mirtowerlaw05.InternMatchesReference", spec := "internMatchesReference", unfollowed := true, recurses := true, apart := false }
def InternMatchesReferenceSaid : Prop := internMatchesReferenceRow.holds Try.pinned (OpenSpec.ofChange internMatchesReferenceSpec)

/-- ITS FALSE NEIGHBOUR: 'it returns false'. Refute it at one input. -/
def internMatchesReferenceWrong : ChangeSpec := { name := "internMatchesReference", fn := fun _ => fun
  | [d1, d2, d3] => { results := [.lit (.bool false)], args := [d1, d2, d3] }
  | _ => none }
def InternMatchesReferenceWrongFalsely : Prop := internMatchesReferenceRow.holds Try.pinned (OpenSpec.ofChange internMatchesReferenceWrong)

/-- 'mirtowerlaw05.InternRoundTrip': WHATEVER THE INPUT: true; the input reads as it did. -/
def internRoundTripSpec : ChangeSpec := { name := "internRoundTrip", fn := fun _ => fun
  | [d] => { results := [.lit (.bool true)], args := [d] }
  | _ => none }
def internRoundTripRow : OpenClaim := { program := "ytbkgooeghmaokaa", sum := "54b0dc3c134e609beb1e2a47ee14ea0ccbe2d2dd670279b85fbda8e44ec64049", func := "mirtower/mirtowerlaw05.InternRoundTrip", spec := "internRoundTrip", unfollowed := true, recurses := true, apart := false }
def InternRoundTripSaid : Prop := internRoundTripRow.holds Try.pinned (OpenSpec.ofChange internRoundTripSpec)

/-- ITS FALSE NEIGHBOUR: 'it returns false'. Refute it at one input. -/
def internRoundTripWrong : ChangeSpec := { name := "internRoundTrip", fn := fun _ => fun
  | [d] => { results := [.lit (.bool false)], args := [d] }
  | _ => none }
def InternRoundTripWrongFalsely : Prop := internRoundTripRow.holds Try.pinned (OpenSpec.ofChange internRoundTripWrong)

/-- 'mirtowerlaw05.InternOrders': WHATEVER THE INPUT: true; the input reads as it did. -/
def internOrdersSpec : ChangeSpec := { name := "internOrders", fn := fun _ => fun
  | [d] => { results := [.lit (.bool true)], args := [d] }
  | _ => none }
def internOrdersRow : OpenClaim := { program := "ytbkgooeghmaokaa", sum := "54b0dc3c134e609beb1e2a47ee14ea0ccbe2d2dd670279b85fbda8e44ec64049", func := "mirtower/mirtowerlaw05.InternOrders", spec := "internOrders", unfollowed := true, recurses := true, apart := false }
def InternOrdersSaid : Prop := internOrdersRow.holds Try.pinned (OpenSpec.ofChange internOrdersSpec)

/-- ITS FALSE NEIGHBOUR: 'it returns false'. Refute it at one input. -/
def internOrdersWrong : ChangeSpec := { name := "internOrders", fn := fun _ => fun
  | [d] => { results := [.lit (.bool false)], args := [d] }
  | _ => none }
def InternOrdersWrongFalsely : Prop := internOrdersRow.holds Try.pinned (OpenSpec.ofChange internOrdersWrong)

/-- 'mirtowerlaw05.InternIsolated': WHATEVER THE INPUT: true; the input reads as it did. -/
def internIsolatedSpec : ChangeSpec := { name := "internIsolated", fn := fun _ => fun
  | [d] => { results := [.lit (.bool true)], args := [d] }
  | _ => none }
def internIsolatedRow : OpenClaim := { program := "ytbkgooeghmaokaa", sum := "54b0dc3c134e609beb1e2a47ee14ea0ccbe2d2dd670279b85fbda8e44ec64049", func := "mirtower/mirtowerlaw05.InternIsolated", spec := "internIsolated", unfollowed := true, recurses := true, apart := false }
def InternIsolatedSaid : Prop := internIsolatedRow.holds Try.pinned (OpenSpec.ofChange internIsolatedSpec)

/-- ITS FALSE NEIGHBOUR: 'it returns false'. Refute it at one input. -/
def internIsolatedWrong : ChangeSpec := { name := "internIsolated", fn := fun _ => fun
  | [d] => { results := [.lit (.bool false)], args := [d] }
  | _ => none }
def InternIsolatedWrongFalsely : Prop := internIsolatedRow.holds Try.pinned (OpenSpec.ofChange internIsolatedWrong)

/- THE SECOND FORM. 'bulk': how many values and letters a reading holds, each counted each time it is reached (what is shared counts as often as it is met; a slice's spare places count too). A statement '..UptoSaid' is the law's where the arguments, and the package variables that the reading takes, are together of bulk at most 1048576: NARROWER than '..Said'. Prove '..Said' where nothing that the law and all that it calls make is longer than what came in: it says more and counts as full. Else prove '..UptoSaid'. A law counts once. -/
mutual
def uptoBulk {H : Type} : DataW H → Nat
  | .lit (.string bytes) => bytes.length + 1
  | .lit _ => 1
  | .nil => 1
  | .ptr d => uptoBulk d + 1
  | .slice elems spare => uptoBulkAll elems + uptoBulkAll spare + 1
  | .agg parts => uptoBulkAll parts + 1
  | .iface _ d => uptoBulk d + 1
  | .map entries => uptoBulkEntries entries + 1
  | .held _ => 1
def uptoBulkAll {H : Type} : List (DataW H) → Nat
  | [] => 0
  | d :: r => uptoBulk d + uptoBulkAll r
def uptoBulkEntries {H : Type} : List (Lit × DataW H) → Nat
  | [] => 0
  | x :: r => uptoBulkEntry x + uptoBulkEntries r
def uptoBulkEntry {H : Type} : Lit × DataW H → Nat
  | (.string bytes, d) => bytes.length + uptoBulk d + 1
  | (_, d) => uptoBulk d + 1
 end
def uptoSmall : (H : Type) → List (DataW H) → Bool := fun _ ds => decide (uptoBulkAll ds ≤ 1048576)
def OpenSpec.upto (s : _root_.Go.ChangeSpec) : _root_.Go.OpenSpec := { _root_.Go.OpenSpec.ofChange s with cond := some uptoSmall }

/-- 'mirtowerlaw05.InternIdents', WHERE WHAT IT READS IS OF BULK AT MOST 1048576: true; the input reads as it did. -/
def internIdentsUptoRow : OpenClaim := { program := "ytbkgooeghmaokaa", sum := "54b0dc3c134e609beb1e2a47ee14ea0ccbe2d2dd670279b85fbda8e44ec64049", func := "mirtower/mirtowerlaw05.InternIdents", spec := "internIdents", unfollowed := true, recurses := true, apart := false, narrowed := true }
def InternIdentsUptoSaid : Prop := internIdentsUptoRow.holds Try.pinned (OpenSpec.upto internIdentsSpec)

/-- 'mirtowerlaw05.InternMatchesReference', WHERE WHAT IT READS IS OF BULK AT MOST 1048576: true; the input reads as it did. -/
def internMatchesReferenceUptoRow : OpenClaim := { program := "ytbkgooeghmaokaa", sum := "54b0dc3c134e609beb1e2a47ee14ea0ccbe2d2dd670279b85fbda8e44ec64049", func := "mirtower/mirtowerlaw05.InternMatchesReference", spec := "internMatchesReference", unfollowed := true, recurses := true, apart := false, narrowed := true }
def InternMatchesReferenceUptoSaid : Prop := internMatchesReferenceUptoRow.holds Try.pinned (OpenSpec.upto internMatchesReferenceSpec)

/-- 'mirtowerlaw05.InternRoundTrip', WHERE WHAT IT READS IS OF BULK AT MOST 1048576: true; the input reads as it did. -/
def internRoundTripUptoRow : OpenClaim := { program := "ytbkgooeghmaokaa", sum := "54b0dc3c134e609beb1e2a47ee14ea0ccbe2d2dd670279b85fbda8e44ec64049", func := "mirtower/mirtowerlaw05.InternRoundTrip", spec := "internRoundTrip", unfollowed := true, recurses := true, apart := false, narrowed := true }
def InternRoundTripUptoSaid : Prop := internRoundTripUptoRow.holds Try.pinned (OpenSpec.upto internRoundTripSpec)

/-- 'mirtowerlaw05.InternOrders', WHERE WHAT IT READS IS OF BULK AT MOST 1048576: true; the input reads as it did. -/
def internOrdersUptoRow : OpenClaim := { program := "ytbkgooeghmaokaa", sum := "54b0dc3c134e609beb1e2a47ee14ea0ccbe2d2dd670279b85fbda8e44ec64049", func := "mirtower/mirtowerlaw05.InternOrders", spec := "internOrders", unfollowed := true, recurses := true, apart := false, narrowed := true }
def InternOrdersUptoSaid : Prop := internOrdersUptoRow.holds Try.pinned (OpenSpec.upto internOrdersSpec)

/-- 'mirtowerlaw05.InternIsolated', WHERE WHAT IT READS IS OF BULK AT MOST 1048576: true; the input reads as it did. -/
def internIsolatedUptoRow : OpenClaim := { program := "ytbkgooeghmaokaa", sum := "54b0dc3c134e609beb1e2a47ee14ea0ccbe2d2dd670279b85fbda8e44ec64049", func := "mirtower/mirtowerlaw05.InternIsolated", spec := "internIsolated", unfollowed := true, recurses := true, apart := false, narrowed := true }
def InternIsolatedUptoSaid : Prop := internIsolatedUptoRow.holds Try.pinned (OpenSpec.upto internIsolatedSpec)

end Rows
end Go.Proofs.Ytbkgooeghmaokaa
