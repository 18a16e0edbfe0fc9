/-
  DERIVED. GIVEN WITH THE SEED: THE CARDS: each row of YtnkjbjkoffgocaaGreatDoorRows.lean that lists a variable, with what it lists TIED to the program's text (the seventh form; the later family's looks); each row that meets fmt, with fmt's text TOLD by the authors' own Lean function (tested against real Go, not proved from fmt's source: count such statements apart). THE CARD IS WHAT COUNTS. Prove the row's statement (the work); the ties are given (YtnkjbjkoffgocaaGreatDoorTie.lean); close each card by the builder's one call (the guide's Derived/Test/ToyasCard.lean, 'card_holds'). Laid BY PROGRAM, IN A SANDBOX (cutbox-door.mjs). By AI agents, Wed Nov 11 2026. No macro, syntax, notation, axiom, sorry.
-/
import Derived.Test.YtnkjbjkoffgocaaGreatDoorRows
import GoSem.ClaimSeven
namespace Go.Proofs.YtnkjbjkoffgocaaGreatDoor
namespace Rows

/-- THE TIED CARD OF 'mirtowerlaw14.FactsExtract'. -/
def factsExtractCard : Claim7 := { stood := { row := factsExtractRow, standIns := [], harness := (true, "d2c2e19cd48711648ba0fa9962d8329650f7680f8c1efda5c144af1a475229f0"), looks := false }, kinds := [], alts := [], laidByText := true, laidKinds := [.data], laidTests := true, laidLooks := .later }
def FactsExtractCardSaid : Prop := Claim7.holds Tryz.pinned (.plain (OpenSpec.ofChange factsExtractSpec)) factsExtractCard

/-- THE TIED CARD OF 'mirtowerlaw14.FactsCheck'. -/
def factsCheckCard : Claim7 := { stood := { row := factsCheckRow, standIns := [], harness := (true, "d2c2e19cd48711648ba0fa9962d8329650f7680f8c1efda5c144af1a475229f0"), looks := false }, kinds := [], alts := [], laidByText := true, laidKinds := [.data], laidTests := true, laidLooks := .later }
def FactsCheckCardSaid : Prop := Claim7.holds Tryz.pinned (.plain (OpenSpec.ofChange factsCheckSpec)) factsCheckCard

/-- THE TIED CARD OF 'mirtowerlaw14.FactsCompare'. -/
def factsCompareCard : Claim7 := { stood := { row := factsCompareRow, standIns := [], harness := (true, "d2c2e19cd48711648ba0fa9962d8329650f7680f8c1efda5c144af1a475229f0"), looks := false }, kinds := [], alts := [], laidByText := true, laidKinds := [.data], laidTests := true, laidLooks := .later }
def FactsCompareCardSaid : Prop := Claim7.holds Tryz.pinned (.plain (OpenSpec.ofChange factsCompareSpec)) factsCompareCard

/-- THE TIED CARD OF 'mirtowerlaw14.FactsClone'. -/
def factsCloneCard : Claim7 := { stood := { row := factsCloneRow, standIns := [], harness := (true, "d2c2e19cd48711648ba0fa9962d8329650f7680f8c1efda5c144af1a475229f0"), looks := false }, kinds := [], alts := [], laidByText := true, laidKinds := [.data], laidTests := true, laidLooks := .later }
def FactsCloneCardSaid : Prop := Claim7.holds Tryz.pinned (.plain (OpenSpec.ofChange factsCloneSpec)) factsCloneCard

/-- THE TIED CARD OF 'mirtowerlaw14.FactsAreValid'. -/
def factsAreValidCard : Claim7 := { stood := { row := factsAreValidRow, standIns := [], harness := (true, "d2c2e19cd48711648ba0fa9962d8329650f7680f8c1efda5c144af1a475229f0"), looks := false }, kinds := [], alts := [], laidByText := true, laidKinds := [.data], laidTests := true, laidLooks := .later }
def FactsAreValidCardSaid : Prop := Claim7.holds Tryz.pinned (.plain (OpenSpec.ofChange factsAreValidSpec)) factsAreValidCard

/-- THE TIED CARD OF 'mirtowerlaw14.FactsPoints'. -/
def factsPointsCard : Claim7 := { stood := { row := factsPointsRow, standIns := [], harness := (true, "d2c2e19cd48711648ba0fa9962d8329650f7680f8c1efda5c144af1a475229f0"), looks := false }, kinds := [], alts := [], laidByText := true, laidKinds := [.data], laidTests := true, laidLooks := .later }
def FactsPointsCardSaid : Prop := Claim7.holds Tryz.pinned (.plain (OpenSpec.ofChange factsPointsSpec)) factsPointsCard

/-- THE SECOND FORM's CARD OF 'mirtowerlaw14.FactsExtract'. -/
def factsExtractUptoCard : Claim7 := { stood := { row := factsExtractUptoRow, standIns := [], harness := (true, "d2c2e19cd48711648ba0fa9962d8329650f7680f8c1efda5c144af1a475229f0"), looks := false }, kinds := [], alts := [], laidByText := true, laidKinds := [.data], laidTests := true, laidLooks := .later }
def FactsExtractUptoCardSaid : Prop := Claim7.holds Tryz.pinned (.plain (OpenSpec.upto factsExtractSpec)) factsExtractUptoCard

/-- THE SECOND FORM's CARD OF 'mirtowerlaw14.FactsCheck'. -/
def factsCheckUptoCard : Claim7 := { stood := { row := factsCheckUptoRow, standIns := [], harness := (true, "d2c2e19cd48711648ba0fa9962d8329650f7680f8c1efda5c144af1a475229f0"), looks := false }, kinds := [], alts := [], laidByText := true, laidKinds := [.data], laidTests := true, laidLooks := .later }
def FactsCheckUptoCardSaid : Prop := Claim7.holds Tryz.pinned (.plain (OpenSpec.upto factsCheckSpec)) factsCheckUptoCard

/-- THE SECOND FORM's CARD OF 'mirtowerlaw14.FactsCompare'. -/
def factsCompareUptoCard : Claim7 := { stood := { row := factsCompareUptoRow, standIns := [], harness := (true, "d2c2e19cd48711648ba0fa9962d8329650f7680f8c1efda5c144af1a475229f0"), looks := false }, kinds := [], alts := [], laidByText := true, laidKinds := [.data], laidTests := true, laidLooks := .later }
def FactsCompareUptoCardSaid : Prop := Claim7.holds Tryz.pinned (.plain (OpenSpec.upto factsCompareSpec)) factsCompareUptoCard

/-- THE SECOND FORM's CARD OF 'mirtowerlaw14.FactsClone'. -/
def factsCloneUptoCard : Claim7 := { stood := { row := factsCloneUptoRow, standIns := [], harness := (true, "d2c2e19cd48711648ba0fa9962d8329650f7680f8c1efda5c144af1a475229f0"), looks := false }, kinds := [], alts := [], laidByText := true, laidKinds := [.data], laidTests := true, laidLooks := .later }
def FactsCloneUptoCardSaid : Prop := Claim7.holds Tryz.pinned (.plain (OpenSpec.upto factsCloneSpec)) factsCloneUptoCard

/-- THE SECOND FORM's CARD OF 'mirtowerlaw14.FactsAreValid'. -/
def factsAreValidUptoCard : Claim7 := { stood := { row := factsAreValidUptoRow, standIns := [], harness := (true, "d2c2e19cd48711648ba0fa9962d8329650f7680f8c1efda5c144af1a475229f0"), looks := false }, kinds := [], alts := [], laidByText := true, laidKinds := [.data], laidTests := true, laidLooks := .later }
def FactsAreValidUptoCardSaid : Prop := Claim7.holds Tryz.pinned (.plain (OpenSpec.upto factsAreValidSpec)) factsAreValidUptoCard

/-- THE SECOND FORM's CARD OF 'mirtowerlaw14.FactsPoints'. -/
def factsPointsUptoCard : Claim7 := { stood := { row := factsPointsUptoRow, standIns := [], harness := (true, "d2c2e19cd48711648ba0fa9962d8329650f7680f8c1efda5c144af1a475229f0"), looks := false }, kinds := [], alts := [], laidByText := true, laidKinds := [.data], laidTests := true, laidLooks := .later }
def FactsPointsUptoCardSaid : Prop := Claim7.holds Tryz.pinned (.plain (OpenSpec.upto factsPointsSpec)) factsPointsUptoCard
end Rows
end Go.Proofs.YtnkjbjkoffgocaaGreatDoor
