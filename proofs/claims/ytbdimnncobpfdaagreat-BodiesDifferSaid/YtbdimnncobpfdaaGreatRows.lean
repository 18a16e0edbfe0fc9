/-
  No cell of these rows narrows 'for every input' (looked for: loops, veiled, ifaces, maps, wideKeys, modest, calm, conditions, laid).
  DERIVED. THE GIVEN ROWS OF THIS SEAT. 6 by the template 'for every input the law returns true; each argument reads behind the call as it read before'; 0 by the template 'total and deterministic' (their statements: YtbdimnncobpfdaaGreatTotals.lean).
  GIVEN WITH THE SEED: the statements are not yours to turn. If you find one false, say at which input.
  Laid BY PROGRAM, IN A SANDBOX (cutbox-rows.mjs): the forced cells as the released guide's own fill.sh prints them over the translation 9e77dc44183ffa15… (all of the seat's roots in one cut). By AI agents, Wed Nov 11 2026. No macro, syntax, notation, axiom, sorry.
-/
import Derived.Test.YtbdimnncobpfdaaGreatChecked
import GoSem.Claim
import GoSem.ClaimJoined
import GoSem.ClaimMapViews
import Derived.JoinedTies
import Derived.KernelRfl
namespace Go.Proofs.YtbdimnncobpfdaaGreat
/- THE CELL 'sum', in the pinned program and in every row, IS THE sha256 OF THE DUMP (.gsa) THAT YtbdimnncobpfdaaGreatProg.lean LOADS. Nothing in Lean hashes anything: it is a label: what it is worth is what the hold of that sum in a sandbox is worth. -/
noncomputable def Tryz.pinned : Pinned := { name := "ytbdimnncobpfdaagreat", sum := "9e77dc44183ffa15a267936e1f3195f76e585c3fc8792d2f3779fc32e31edecb", checked := Tryz.checked }
namespace Rows
def none {H : Type} : Left H := { results := [], args := [] }

/-- 'mirtowerlaw09.BodiesCompare': WHATEVER THE INPUT: true; the input reads as it did. -/
def bodiesCompareSpec : ChangeSpec := { name := "bodiesCompare", fn := fun _ => fun
  | [d1, d2] => { results := [.lit (.bool true)], args := [d1, d2] }
  | _ => none }
def bodiesCompareRow : OpenClaim := { program := "ytbdimnncobpfdaagreat", sum := "9e77dc44183ffa15a267936e1f3195f76e585c3fc8792d2f3779fc32e31edecb", func := "mirtower/mirtowerlaw09.BodiesCompare", spec := "bodiesCompare", unfollowed := true, recurses := true, apart := false }
def BodiesCompareSaid : Prop := bodiesCompareRow.holds Tryz.pinned (OpenSpec.ofChange bodiesCompareSpec)

/-- ITS FALSE NEIGHBOUR: 'it returns false'. Refute it at one input. -/
def bodiesCompareWrong : ChangeSpec := { name := "bodiesCompare", fn := fun _ => fun
  | [d1, d2] => { results := [.lit (.bool false)], args := [d1, d2] }
  | _ => none }
def BodiesCompareWrongFalsely : Prop := bodiesCompareRow.holds Tryz.pinned (OpenSpec.ofChange bodiesCompareWrong)

/-- 'mirtowerlaw09.BodiesMeasures': WHATEVER THE INPUT: true; the input reads as it did. -/
def bodiesMeasuresSpec : ChangeSpec := { name := "bodiesMeasures", fn := fun _ => fun
  | [d] => { results := [.lit (.bool true)], args := [d] }
  | _ => none }
def bodiesMeasuresRow : OpenClaim := { program := "ytbdimnncobpfdaagreat", sum := "9e77dc44183ffa15a267936e1f3195f76e585c3fc8792d2f3779fc32e31edecb", func := "mirtower/mirtowerlaw09.BodiesMeasures", spec := "bodiesMeasures", unfollowed := true, recurses := true, apart := false }
def BodiesMeasuresSaid : Prop := bodiesMeasuresRow.holds Tryz.pinned (OpenSpec.ofChange bodiesMeasuresSpec)

/-- ITS FALSE NEIGHBOUR: 'it returns false'. Refute it at one input. -/
def bodiesMeasuresWrong : ChangeSpec := { name := "bodiesMeasures", fn := fun _ => fun
  | [d] => { results := [.lit (.bool false)], args := [d] }
  | _ => none }
def BodiesMeasuresWrongFalsely : Prop := bodiesMeasuresRow.holds Tryz.pinned (OpenSpec.ofChange bodiesMeasuresWrong)

/-- 'mirtowerlaw09.BodiesOperands': WHATEVER THE INPUT: true; the input reads as it did. -/
def bodiesOperandsSpec : ChangeSpec := { name := "bodiesOperands", fn := fun _ => fun
  | [d] => { results := [.lit (.bool true)], args := [d] }
  | _ => none }
def bodiesOperandsRow : OpenClaim := { program := "ytbdimnncobpfdaagreat", sum := "9e77dc44183ffa15a267936e1f3195f76e585c3fc8792d2f3779fc32e31edecb", func := "mirtower/mirtowerlaw09.BodiesOperands", spec := "bodiesOperands", unfollowed := true, recurses := true, apart := false }
def BodiesOperandsSaid : Prop := bodiesOperandsRow.holds Tryz.pinned (OpenSpec.ofChange bodiesOperandsSpec)

/-- ITS FALSE NEIGHBOUR: 'it returns false'. Refute it at one input. -/
def bodiesOperandsWrong : ChangeSpec := { name := "bodiesOperands", fn := fun _ => fun
  | [d] => { results := [.lit (.bool false)], args := [d] }
  | _ => none }
def BodiesOperandsWrongFalsely : Prop := bodiesOperandsRow.holds Tryz.pinned (OpenSpec.ofChange bodiesOperandsWrong)

/-- 'mirtowerlaw09.BodiesClone': WHATEVER THE INPUT: true; the input reads as it did. -/
def bodiesCloneSpec : ChangeSpec := { name := "bodiesClone", fn := fun _ => fun
  | [d] => { results := [.lit (.bool true)], args := [d] }
  | _ => none }
def bodiesCloneRow : OpenClaim := { program := "ytbdimnncobpfdaagreat", sum := "9e77dc44183ffa15a267936e1f3195f76e585c3fc8792d2f3779fc32e31edecb", func := "mirtower/mirtowerlaw09.BodiesClone", spec := "bodiesClone", unfollowed := true, recurses := true, apart := false }
def BodiesCloneSaid : Prop := bodiesCloneRow.holds Tryz.pinned (OpenSpec.ofChange bodiesCloneSpec)

/-- ITS FALSE NEIGHBOUR: 'it returns false'. Refute it at one input. -/
def bodiesCloneWrong : ChangeSpec := { name := "bodiesClone", fn := fun _ => fun
  | [d] => { results := [.lit (.bool false)], args := [d] }
  | _ => none }
def BodiesCloneWrongFalsely : Prop := bodiesCloneRow.holds Tryz.pinned (OpenSpec.ofChange bodiesCloneWrong)

/-- 'mirtowerlaw09.BodiesDiffer': WHATEVER THE INPUT: true; the input reads as it did. -/
def bodiesDifferSpec : ChangeSpec := { name := "bodiesDiffer", fn := fun _ => fun
  | [d1, d2] => { results := [.lit (.bool true)], args := [d1, d2] }
  | _ => none }
def bodiesDifferRow : OpenClaim := { program := "ytbdimnncobpfdaagreat", sum := "9e77dc44183ffa15a267936e1f3195f76e585c3fc8792d2f3779fc32e31edecb", func := "mirtower/mirtowerlaw09.BodiesDiffer", spec := "bodiesDiffer", unfollowed := true, recurses := true, apart := false }
def BodiesDifferSaid : Prop := bodiesDifferRow.holds Tryz.pinned (OpenSpec.ofChange bodiesDifferSpec)

/-- ITS FALSE NEIGHBOUR: 'it returns false'. Refute it at one input. -/
def bodiesDifferWrong : ChangeSpec := { name := "bodiesDiffer", fn := fun _ => fun
  | [d1, d2] => { results := [.lit (.bool false)], args := [d1, d2] }
  | _ => none }
def BodiesDifferWrongFalsely : Prop := bodiesDifferRow.holds Tryz.pinned (OpenSpec.ofChange bodiesDifferWrong)

/-- 'mirtowerlaw09.BodiesEqual': WHATEVER THE INPUT: true; the input reads as it did. -/
def bodiesEqualSpec : ChangeSpec := { name := "bodiesEqual", fn := fun _ => fun
  | [d1, d2] => { results := [.lit (.bool true)], args := [d1, d2] }
  | _ => none }
def bodiesEqualRow : OpenClaim := { program := "ytbdimnncobpfdaagreat", sum := "9e77dc44183ffa15a267936e1f3195f76e585c3fc8792d2f3779fc32e31edecb", func := "mirtower/mirtowerlaw09.BodiesEqual", spec := "bodiesEqual", unfollowed := true, recurses := true, apart := false }
def BodiesEqualSaid : Prop := bodiesEqualRow.holds Tryz.pinned (OpenSpec.ofChange bodiesEqualSpec)

/-- ITS FALSE NEIGHBOUR: 'it returns false'. Refute it at one input. -/
def bodiesEqualWrong : ChangeSpec := { name := "bodiesEqual", fn := fun _ => fun
  | [d1, d2] => { results := [.lit (.bool false)], args := [d1, d2] }
  | _ => none }
def BodiesEqualWrongFalsely : Prop := bodiesEqualRow.holds Tryz.pinned (OpenSpec.ofChange bodiesEqualWrong)

/- THE SECOND FORM. 'bulk': how many values and letters a reading holds, each counted each time it is reached (what is shared counts as often as it is met; a slice's spare places count too). A statement '..UptoSaid' is the law's where the arguments, and the package variables that the reading takes, are together of bulk at most 1048576: NARROWER than '..Said'. Prove '..Said' where nothing that the law and all that it calls make is longer than what came in: it says more and counts as full. Else prove '..UptoSaid'. A law counts once. -/
mutual
def uptoBulk {H : Type} : DataW H → Nat
  | .lit (.string bytes) => bytes.length + 1
  | .lit _ => 1
  | .nil => 1
  | .ptr d => uptoBulk d + 1
  | .slice elems spare => uptoBulkAll elems + uptoBulkAll spare + 1
  | .agg parts => uptoBulkAll parts + 1
  | .iface _ d => uptoBulk d + 1
  | .map entries => uptoBulkEntries entries + 1
  | .held _ => 1
def uptoBulkAll {H : Type} : List (DataW H) → Nat
  | [] => 0
  | d :: r => uptoBulk d + uptoBulkAll r
def uptoBulkEntries {H : Type} : List (Lit × DataW H) → Nat
  | [] => 0
  | x :: r => uptoBulkEntry x + uptoBulkEntries r
def uptoBulkEntry {H : Type} : Lit × DataW H → Nat
  | (.string bytes, d) => bytes.length + uptoBulk d + 1
  | (_, d) => uptoBulk d + 1
 end
def uptoSmall : (H : Type) → List (DataW H) → Bool := fun _ ds => decide (uptoBulkAll ds ≤ 1048576)
def OpenSpec.upto (s : _root_.Go.ChangeSpec) : _root_.Go.OpenSpec := { _root_.Go.OpenSpec.ofChange s with cond := some uptoSmall }

/-- 'mirtowerlaw09.BodiesCompare', WHERE WHAT IT READS IS OF BULK AT MOST 1048576: true; the input reads as it did. -/
def bodiesCompareUptoRow : OpenClaim := { program := "ytbdimnncobpfdaagreat", sum := "9e77dc44183ffa15a267936e1f3195f76e585c3fc8792d2f3779fc32e31edecb", func := "mirtower/mirtowerlaw09.BodiesCompare", spec := "bodiesCompare", unfollowed := true, recurses := true, apart := false, narrowed := true }
def BodiesCompareUptoSaid : Prop := bodiesCompareUptoRow.holds Tryz.pinned (OpenSpec.upto bodiesCompareSpec)

/-- 'mirtowerlaw09.BodiesMeasures', WHERE WHAT IT READS IS OF BULK AT MOST 1048576: true; the input reads as it did. -/
def bodiesMeasuresUptoRow : OpenClaim := { program := "ytbdimnncobpfdaagreat", sum := "9e77dc44183ffa15a267936e1f3195f76e585c3fc8792d2f3779fc32e31edecb", func := "mirtower/mirtowerlaw09.BodiesMeasures", spec := "bodiesMeasures", unfollowed := true, recurses := true, apart := false, narrowed := true }
def BodiesMeasuresUptoSaid : Prop := bodiesMeasuresUptoRow.holds Tryz.pinned (OpenSpec.upto bodiesMeasuresSpec)

/-- 'mirtowerlaw09.BodiesOperands', WHERE WHAT IT READS IS OF BULK AT MOST 1048576: true; the input reads as it did. -/
def bodiesOperandsUptoRow : OpenClaim := { program := "ytbdimnncobpfdaagreat", sum := "9e77dc44183ffa15a267936e1f3195f76e585c3fc8792d2f3779fc32e31edecb", func := "mirtower/mirtowerlaw09.BodiesOperands", spec := "bodiesOperands", unfollowed := true, recurses := true, apart := false, narrowed := true }
def BodiesOperandsUptoSaid : Prop := bodiesOperandsUptoRow.holds Tryz.pinned (OpenSpec.upto bodiesOperandsSpec)

/-- 'mirtowerlaw09.BodiesClone', WHERE WHAT IT READS IS OF BULK AT MOST 1048576: true; the input reads as it did. -/
def bodiesCloneUptoRow : OpenClaim := { program := "ytbdimnncobpfdaagreat", sum := "9e77dc44183ffa15a267936e1f3195f76e585c3fc8792d2f3779fc32e31edecb", func := "mirtower/mirtowerlaw09.BodiesClone", spec := "bodiesClone", unfollowed := true, recurses := true, apart := false, narrowed := true }
def BodiesCloneUptoSaid : Prop := bodiesCloneUptoRow.holds Tryz.pinned (OpenSpec.upto bodiesCloneSpec)

/-- 'mirtowerlaw09.BodiesDiffer', WHERE WHAT IT READS IS OF BULK AT MOST 1048576: true; the input reads as it did. -/
def bodiesDifferUptoRow : OpenClaim := { program := "ytbdimnncobpfdaagreat", sum := "9e77dc44183ffa15a267936e1f3195f76e585c3fc8792d2f3779fc32e31edecb", func := "mirtower/mirtowerlaw09.BodiesDiffer", spec := "bodiesDiffer", unfollowed := true, recurses := true, apart := false, narrowed := true }
def BodiesDifferUptoSaid : Prop := bodiesDifferUptoRow.holds Tryz.pinned (OpenSpec.upto bodiesDifferSpec)

/-- 'mirtowerlaw09.BodiesEqual', WHERE WHAT IT READS IS OF BULK AT MOST 1048576: true; the input reads as it did. -/
def bodiesEqualUptoRow : OpenClaim := { program := "ytbdimnncobpfdaagreat", sum := "9e77dc44183ffa15a267936e1f3195f76e585c3fc8792d2f3779fc32e31edecb", func := "mirtower/mirtowerlaw09.BodiesEqual", spec := "bodiesEqual", unfollowed := true, recurses := true, apart := false, narrowed := true }
def BodiesEqualUptoSaid : Prop := bodiesEqualUptoRow.holds Tryz.pinned (OpenSpec.upto bodiesEqualSpec)

end Rows
end Go.Proofs.YtbdimnncobpfdaaGreat
