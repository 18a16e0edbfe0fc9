/-
  NARROWER THAN 'FOR EVERY INPUT', by the rows' own cells (each row's printed sentence says how): FactsExtract: laid · FactsCheck: laid · FactsCompare: laid · FactsClone: laid · FactsAreValid: laid · FactsPoints: laid.
  DERIVED. THE GIVEN ROWS OF THIS SEAT. 6 by the template 'for every input the law returns true; each argument reads behind the call as it read before'; 0 by the template 'total and deterministic' (their statements: YtnkjbjkoffgocaaGreatDoorTotals.lean).
  GIVEN WITH THE SEED: the statements are not yours to turn. If you find one false, say at which input.
  Laid BY PROGRAM, IN A SANDBOX (cutbox-rows.mjs): the forced cells as the released guide's own fill.sh prints them over the translation 2bf006e4b6fd1afe… (all of the seat's roots in one cut). By AI agents, Wed Nov 11 2026. No macro, syntax, notation, axiom, sorry.
-/
import Derived.Test.YtnkjbjkoffgocaaGreatDoorChecked
import GoSem.Claim
import GoSem.ClaimJoined
import GoSem.ClaimMapViews
import Derived.JoinedTies
import Derived.KernelRfl
namespace Go.Proofs.YtnkjbjkoffgocaaGreatDoor
/- THE CELL 'sum', in the pinned program and in every row, IS THE sha256 OF THE DUMP (.gsa) THAT YtnkjbjkoffgocaaGreatDoorProg.lean LOADS. Nothing in Lean hashes anything: it is a label: what it is worth is what the hold of that sum in a sandbox is worth. -/
noncomputable def Tryz.pinned : Pinned := { name := "ytnkjbjkoffgocaagreatdoor", sum := "2bf006e4b6fd1afed7604ae75749fcbabec3d4be56e48fd34d44cc0cc8358f8d", checked := Tryz.checked }
namespace Rows
def none {H : Type} : Left H := { results := [], args := [] }

/- WHAT THE LISTED PACKAGE-LEVEL VARIABLES READ AS WHEN THE CALL BEGINS. Each datum BY PROGRAM (the guide's laid-datum.mjs) off the statement by which the dump's own 'gosem.cut.vars' lays the variable. In a bare row this is a premise. The card (YtnkjbjkoffgocaaGreatDoorCards.lean) ties it to the program's text. -/
def laid_mirtower_valid_operators {H : Type} : DataW H := .agg [.agg [.lit (.int .i64 2), .lit (.int .i64 0), .lit (.int .i64 2), .lit (.int .i64 2)], .agg [.lit (.int .i64 2), .lit (.int .i64 1), .lit (.int .i64 1), .lit (.int .i64 1)], .agg [.lit (.int .i64 3), .lit (.int .i64 0), .lit (.int .i64 2), .lit (.int .i64 2)], .agg [.lit (.int .i64 3), .lit (.int .i64 1), .lit (.int .i64 2), .lit (.int .i64 2)], .agg [.lit (.int .i64 3), .lit (.int .i64 2), .lit (.int .i64 2), .lit (.int .i64 2)], .agg [.lit (.int .i64 3), .lit (.int .i64 3), .lit (.int .i64 2), .lit (.int .i64 1)], .agg [.lit (.int .i64 3), .lit (.int .i64 4), .lit (.int .i64 2), .lit (.int .i64 1)], .agg [.lit (.int .i64 3), .lit (.int .i64 5), .lit (.int .i64 1), .lit (.int .i64 1)]]

/-- 'mirtowerlaw14.FactsExtract': WHATEVER THE INPUT: true; the input reads as it did. -/
def factsExtractSpec : ChangeSpec := { name := "factsExtract", fn := fun _ => fun
  | [d] => { results := [.lit (.bool true)], args := [d] }
  | _ => none }
def factsExtractRow : OpenClaim := { program := "ytnkjbjkoffgocaagreatdoor", sum := "2bf006e4b6fd1afed7604ae75749fcbabec3d4be56e48fd34d44cc0cc8358f8d", func := "mirtower/mirtowerlaw14.FactsExtract", spec := "factsExtract", unfollowed := true, recurses := true, named := ["mirtower/valid.operators"], plainKeys := false, apart := false, laid := [("mirtower/valid.operators", laid_mirtower_valid_operators)] }
def FactsExtractSaid : Prop := factsExtractRow.holds Tryz.pinned (OpenSpec.ofChange factsExtractSpec)

/-- ITS FALSE NEIGHBOUR: 'it returns false'. Refute it at one input. -/
def factsExtractWrong : ChangeSpec := { name := "factsExtract", fn := fun _ => fun
  | [d] => { results := [.lit (.bool false)], args := [d] }
  | _ => none }
def FactsExtractWrongFalsely : Prop := factsExtractRow.holds Tryz.pinned (OpenSpec.ofChange factsExtractWrong)

/-- 'mirtowerlaw14.FactsCheck': WHATEVER THE INPUT: true; the input reads as it did. -/
def factsCheckSpec : ChangeSpec := { name := "factsCheck", fn := fun _ => fun
  | [d1, d2, d3] => { results := [.lit (.bool true)], args := [d1, d2, d3] }
  | _ => none }
def factsCheckRow : OpenClaim := { program := "ytnkjbjkoffgocaagreatdoor", sum := "2bf006e4b6fd1afed7604ae75749fcbabec3d4be56e48fd34d44cc0cc8358f8d", func := "mirtower/mirtowerlaw14.FactsCheck", spec := "factsCheck", unfollowed := true, recurses := true, named := ["mirtower/valid.operators"], plainKeys := false, apart := false, laid := [("mirtower/valid.operators", laid_mirtower_valid_operators)] }
def FactsCheckSaid : Prop := factsCheckRow.holds Tryz.pinned (OpenSpec.ofChange factsCheckSpec)

/-- ITS FALSE NEIGHBOUR: 'it returns false'. Refute it at one input. -/
def factsCheckWrong : ChangeSpec := { name := "factsCheck", fn := fun _ => fun
  | [d1, d2, d3] => { results := [.lit (.bool false)], args := [d1, d2, d3] }
  | _ => none }
def FactsCheckWrongFalsely : Prop := factsCheckRow.holds Tryz.pinned (OpenSpec.ofChange factsCheckWrong)

/-- 'mirtowerlaw14.FactsCompare': WHATEVER THE INPUT: true; the input reads as it did. -/
def factsCompareSpec : ChangeSpec := { name := "factsCompare", fn := fun _ => fun
  | [d1, d2] => { results := [.lit (.bool true)], args := [d1, d2] }
  | _ => none }
def factsCompareRow : OpenClaim := { program := "ytnkjbjkoffgocaagreatdoor", sum := "2bf006e4b6fd1afed7604ae75749fcbabec3d4be56e48fd34d44cc0cc8358f8d", func := "mirtower/mirtowerlaw14.FactsCompare", spec := "factsCompare", unfollowed := true, recurses := true, named := ["mirtower/valid.operators"], plainKeys := false, apart := false, laid := [("mirtower/valid.operators", laid_mirtower_valid_operators)] }
def FactsCompareSaid : Prop := factsCompareRow.holds Tryz.pinned (OpenSpec.ofChange factsCompareSpec)

/-- ITS FALSE NEIGHBOUR: 'it returns false'. Refute it at one input. -/
def factsCompareWrong : ChangeSpec := { name := "factsCompare", fn := fun _ => fun
  | [d1, d2] => { results := [.lit (.bool false)], args := [d1, d2] }
  | _ => none }
def FactsCompareWrongFalsely : Prop := factsCompareRow.holds Tryz.pinned (OpenSpec.ofChange factsCompareWrong)

/-- 'mirtowerlaw14.FactsClone': WHATEVER THE INPUT: true; the input reads as it did. -/
def factsCloneSpec : ChangeSpec := { name := "factsClone", fn := fun _ => fun
  | [d] => { results := [.lit (.bool true)], args := [d] }
  | _ => none }
def factsCloneRow : OpenClaim := { program := "ytnkjbjkoffgocaagreatdoor", sum := "2bf006e4b6fd1afed7604ae75749fcbabec3d4be56e48fd34d44cc0cc8358f8d", func := "mirtower/mirtowerlaw14.FactsClone", spec := "factsClone", unfollowed := true, recurses := true, named := ["mirtower/valid.operators"], plainKeys := false, apart := false, laid := [("mirtower/valid.operators", laid_mirtower_valid_operators)] }
def FactsCloneSaid : Prop := factsCloneRow.holds Tryz.pinned (OpenSpec.ofChange factsCloneSpec)

/-- ITS FALSE NEIGHBOUR: 'it returns false'. Refute it at one input. -/
def factsCloneWrong : ChangeSpec := { name := "factsClone", fn := fun _ => fun
  | [d] => { results := [.lit (.bool false)], args := [d] }
  | _ => none }
def FactsCloneWrongFalsely : Prop := factsCloneRow.holds Tryz.pinned (OpenSpec.ofChange factsCloneWrong)

/-- 'mirtowerlaw14.FactsAreValid': WHATEVER THE INPUT: true; the input reads as it did. -/
def factsAreValidSpec : ChangeSpec := { name := "factsAreValid", fn := fun _ => fun
  | [d] => { results := [.lit (.bool true)], args := [d] }
  | _ => none }
def factsAreValidRow : OpenClaim := { program := "ytnkjbjkoffgocaagreatdoor", sum := "2bf006e4b6fd1afed7604ae75749fcbabec3d4be56e48fd34d44cc0cc8358f8d", func := "mirtower/mirtowerlaw14.FactsAreValid", spec := "factsAreValid", unfollowed := true, recurses := true, named := ["mirtower/valid.operators"], plainKeys := false, apart := false, laid := [("mirtower/valid.operators", laid_mirtower_valid_operators)] }
def FactsAreValidSaid : Prop := factsAreValidRow.holds Tryz.pinned (OpenSpec.ofChange factsAreValidSpec)

/-- ITS FALSE NEIGHBOUR: 'it returns false'. Refute it at one input. -/
def factsAreValidWrong : ChangeSpec := { name := "factsAreValid", fn := fun _ => fun
  | [d] => { results := [.lit (.bool false)], args := [d] }
  | _ => none }
def FactsAreValidWrongFalsely : Prop := factsAreValidRow.holds Tryz.pinned (OpenSpec.ofChange factsAreValidWrong)

/-- 'mirtowerlaw14.FactsPoints': WHATEVER THE INPUT: true; the input reads as it did. -/
def factsPointsSpec : ChangeSpec := { name := "factsPoints", fn := fun _ => fun
  | [d1, d2, d3] => { results := [.lit (.bool true)], args := [d1, d2, d3] }
  | _ => none }
def factsPointsRow : OpenClaim := { program := "ytnkjbjkoffgocaagreatdoor", sum := "2bf006e4b6fd1afed7604ae75749fcbabec3d4be56e48fd34d44cc0cc8358f8d", func := "mirtower/mirtowerlaw14.FactsPoints", spec := "factsPoints", unfollowed := true, recurses := true, named := ["mirtower/valid.operators"], plainKeys := false, apart := false, laid := [("mirtower/valid.operators", laid_mirtower_valid_operators)] }
def FactsPointsSaid : Prop := factsPointsRow.holds Tryz.pinned (OpenSpec.ofChange factsPointsSpec)

/-- ITS FALSE NEIGHBOUR: 'it returns false'. Refute it at one input. -/
def factsPointsWrong : ChangeSpec := { name := "factsPoints", fn := fun _ => fun
  | [d1, d2, d3] => { results := [.lit (.bool false)], args := [d1, d2, d3] }
  | _ => none }
def FactsPointsWrongFalsely : Prop := factsPointsRow.holds Tryz.pinned (OpenSpec.ofChange factsPointsWrong)

/- THE SECOND FORM. 'bulk': how many values and letters a reading holds, each counted each time it is reached (what is shared counts as often as it is met; a slice's spare places count too). A statement '..UptoSaid' is the law's where the arguments, and the package variables that the reading takes, are together of bulk at most 1048576: NARROWER than '..Said'. Prove '..Said' where nothing that the law and all that it calls make is longer than what came in: it says more and counts as full. Else prove '..UptoSaid'. A law counts once. -/
mutual
def uptoBulk {H : Type} : DataW H → Nat
  | .lit (.string bytes) => bytes.length + 1
  | .lit _ => 1
  | .nil => 1
  | .ptr d => uptoBulk d + 1
  | .slice elems spare => uptoBulkAll elems + uptoBulkAll spare + 1
  | .agg parts => uptoBulkAll parts + 1
  | .iface _ d => uptoBulk d + 1
  | .map entries => uptoBulkEntries entries + 1
  | .held _ => 1
def uptoBulkAll {H : Type} : List (DataW H) → Nat
  | [] => 0
  | d :: r => uptoBulk d + uptoBulkAll r
def uptoBulkEntries {H : Type} : List (Lit × DataW H) → Nat
  | [] => 0
  | x :: r => uptoBulkEntry x + uptoBulkEntries r
def uptoBulkEntry {H : Type} : Lit × DataW H → Nat
  | (.string bytes, d) => bytes.length + uptoBulk d + 1
  | (_, d) => uptoBulk d + 1
 end
def uptoSmall : (H : Type) → List (DataW H) → Bool := fun _ ds => decide (uptoBulkAll ds ≤ 1048576)
def OpenSpec.upto (s : _root_.Go.ChangeSpec) : _root_.Go.OpenSpec := { _root_.Go.OpenSpec.ofChange s with cond := some uptoSmall }

/-- 'mirtowerlaw14.FactsExtract', WHERE WHAT IT READS IS OF BULK AT MOST 1048576: true; the input reads as it did. -/
def factsExtractUptoRow : OpenClaim := { program := "ytnkjbjkoffgocaagreatdoor", sum := "2bf006e4b6fd1afed7604ae75749fcbabec3d4be56e48fd34d44cc0cc8358f8d", func := "mirtower/mirtowerlaw14.FactsExtract", spec := "factsExtract", unfollowed := true, recurses := true, named := ["mirtower/valid.operators"], plainKeys := false, apart := false, laid := [("mirtower/valid.operators", laid_mirtower_valid_operators)], narrowed := true }
def FactsExtractUptoSaid : Prop := factsExtractUptoRow.holds Tryz.pinned (OpenSpec.upto factsExtractSpec)

/-- 'mirtowerlaw14.FactsCheck', WHERE WHAT IT READS IS OF BULK AT MOST 1048576: true; the input reads as it did. -/
def factsCheckUptoRow : OpenClaim := { program := "ytnkjbjkoffgocaagreatdoor", sum := "2bf006e4b6fd1afed7604ae75749fcbabec3d4be56e48fd34d44cc0cc8358f8d", func := "mirtower/mirtowerlaw14.FactsCheck", spec := "factsCheck", unfollowed := true, recurses := true, named := ["mirtower/valid.operators"], plainKeys := false, apart := false, laid := [("mirtower/valid.operators", laid_mirtower_valid_operators)], narrowed := true }
def FactsCheckUptoSaid : Prop := factsCheckUptoRow.holds Tryz.pinned (OpenSpec.upto factsCheckSpec)

/-- 'mirtowerlaw14.FactsCompare', WHERE WHAT IT READS IS OF BULK AT MOST 1048576: true; the input reads as it did. -/
def factsCompareUptoRow : OpenClaim := { program := "ytnkjbjkoffgocaagreatdoor", sum := "2bf006e4b6fd1afed7604ae75749fcbabec3d4be56e48fd34d44cc0cc8358f8d", func := "mirtower/mirtowerlaw14.FactsCompare", spec := "factsCompare", unfollowed := true, recurses := true, named := ["mirtower/valid.operators"], plainKeys := false, apart := false, laid := [("mirtower/valid.operators", laid_mirtower_valid_operators)], narrowed := true }
def FactsCompareUptoSaid : Prop := factsCompareUptoRow.holds Tryz.pinned (OpenSpec.upto factsCompareSpec)

/-- 'mirtowerlaw14.FactsClone', WHERE WHAT IT READS IS OF BULK AT MOST 1048576: true; the input reads as it did. -/
def factsCloneUptoRow : OpenClaim := { program := "ytnkjbjkoffgocaagreatdoor", sum := "2bf006e4b6fd1afed7604ae75749fcbabec3d4be56e48fd34d44cc0cc8358f8d", func := "mirtower/mirtowerlaw14.FactsClone", spec := "factsClone", unfollowed := true, recurses := true, named := ["mirtower/valid.operators"], plainKeys := false, apart := false, laid := [("mirtower/valid.operators", laid_mirtower_valid_operators)], narrowed := true }
def FactsCloneUptoSaid : Prop := factsCloneUptoRow.holds Tryz.pinned (OpenSpec.upto factsCloneSpec)

/-- 'mirtowerlaw14.FactsAreValid', WHERE WHAT IT READS IS OF BULK AT MOST 1048576: true; the input reads as it did. -/
def factsAreValidUptoRow : OpenClaim := { program := "ytnkjbjkoffgocaagreatdoor", sum := "2bf006e4b6fd1afed7604ae75749fcbabec3d4be56e48fd34d44cc0cc8358f8d", func := "mirtower/mirtowerlaw14.FactsAreValid", spec := "factsAreValid", unfollowed := true, recurses := true, named := ["mirtower/valid.operators"], plainKeys := false, apart := false, laid := [("mirtower/valid.operators", laid_mirtower_valid_operators)], narrowed := true }
def FactsAreValidUptoSaid : Prop := factsAreValidUptoRow.holds Tryz.pinned (OpenSpec.upto factsAreValidSpec)

/-- 'mirtowerlaw14.FactsPoints', WHERE WHAT IT READS IS OF BULK AT MOST 1048576: true; the input reads as it did. -/
def factsPointsUptoRow : OpenClaim := { program := "ytnkjbjkoffgocaagreatdoor", sum := "2bf006e4b6fd1afed7604ae75749fcbabec3d4be56e48fd34d44cc0cc8358f8d", func := "mirtower/mirtowerlaw14.FactsPoints", spec := "factsPoints", unfollowed := true, recurses := true, named := ["mirtower/valid.operators"], plainKeys := false, apart := false, laid := [("mirtower/valid.operators", laid_mirtower_valid_operators)], narrowed := true }
def FactsPointsUptoSaid : Prop := factsPointsUptoRow.holds Tryz.pinned (OpenSpec.upto factsPointsSpec)

end Rows
end Go.Proofs.YtnkjbjkoffgocaaGreatDoor
