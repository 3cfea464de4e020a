/-
  DERIVED. GIVEN WITH THE SEED: THE CARDS: each row of YtfkbloclogeacaaDoorRows.lean that lists a variable, with what it lists TIED to the program's text (the seventh form; the later family's looks); each row that meets fmt, with fmt's text TOLD by the authors' own Lean function (tested against real Go, not proved from fmt's source: count such statements apart). THE CARD IS WHAT COUNTS. Prove the row's statement (the work); the ties are given (YtfkbloclogeacaaDoorTie.lean); close each card by the builder's one call (the guide's Derived/Test/ToyasCard.lean, 'card_holds'). Laid BY PROGRAM, IN A SANDBOX (cutbox-door.mjs). By AI agents, Wed Nov 11 2026. No macro, syntax, notation, axiom, sorry.
-/
import Derived.Test.YtfkbloclogeacaaDoorRows
import GoSem.ClaimSeven
namespace Go.Proofs.YtfkbloclogeacaaDoor
namespace Rows

/-- THE TIED CARD OF 'lookasidelaw09.FaultJudges'. -/
def faultJudgesCard : Claim7 := { stood := { row := faultJudgesRow, standIns := [], harness := (true, "8f6328177a1432371e6a3eb7339795671ce632b95120633e92522acd4f542658"), looks := false }, kinds := [], alts := [], laidByText := true, laidKinds := [.data], laidTests := true, laidLooks := .later }
def FaultJudgesCardSaid : Prop := Claim7.holds Tryd.pinned (.plain (OpenSpec.ofChange faultJudgesSpec)) faultJudgesCard

/-- THE TIED CARD OF 'lookasidelaw09.FaultTells'. -/
def faultTellsCard : Claim7 := { stood := { row := faultTellsRow, standIns := [], harness := (true, "8f6328177a1432371e6a3eb7339795671ce632b95120633e92522acd4f542658"), looks := false }, kinds := [], alts := [], laidByText := true, laidKinds := [.data], laidTests := true, laidLooks := .later }
def FaultTellsCardSaid : Prop := Claim7.holds Tryd.pinned (.plain (OpenSpec.ofChange faultTellsSpec)) faultTellsCard

/-- THE TIED CARD OF 'lookasidelaw09.FaultLess'. -/
def faultLessCard : Claim7 := { stood := { row := faultLessRow, standIns := [], harness := (true, "8f6328177a1432371e6a3eb7339795671ce632b95120633e92522acd4f542658"), looks := false }, kinds := [], alts := [], laidByText := true, laidKinds := [.data], laidTests := true, laidLooks := .later }
def FaultLessCardSaid : Prop := Claim7.holds Tryd.pinned (.plain (OpenSpec.ofChange faultLessSpec)) faultLessCard

/-- THE TIED CARD OF 'lookasidelaw09.FaultTaken'. -/
def faultTakenCard : Claim7 := { stood := { row := faultTakenRow, standIns := [], harness := (true, "8f6328177a1432371e6a3eb7339795671ce632b95120633e92522acd4f542658"), looks := false }, kinds := [], alts := [], laidByText := true, laidKinds := [.data], laidTests := true, laidLooks := .later }
def FaultTakenCardSaid : Prop := Claim7.holds Tryd.pinned (.plain (OpenSpec.ofChange faultTakenSpec)) faultTakenCard

/-- THE TIED CARD OF 'lookasidelaw09.FaultRows'. -/
def faultRowsCard : Claim7 := { stood := { row := faultRowsRow, standIns := [], harness := (true, "8f6328177a1432371e6a3eb7339795671ce632b95120633e92522acd4f542658"), looks := false }, kinds := [], alts := [], laidByText := true, laidKinds := [.data], laidTests := true, laidLooks := .later }
def FaultRowsCardSaid : Prop := Claim7.holds Tryd.pinned (.plain (OpenSpec.ofChange faultRowsSpec)) faultRowsCard

/-- THE SECOND FORM's CARD OF 'lookasidelaw09.FaultJudges'. -/
def faultJudgesUptoCard : Claim7 := { stood := { row := faultJudgesUptoRow, standIns := [], harness := (true, "8f6328177a1432371e6a3eb7339795671ce632b95120633e92522acd4f542658"), looks := false }, kinds := [], alts := [], laidByText := true, laidKinds := [.data], laidTests := true, laidLooks := .later }
def FaultJudgesUptoCardSaid : Prop := Claim7.holds Tryd.pinned (.plain (OpenSpec.upto faultJudgesSpec)) faultJudgesUptoCard

/-- THE SECOND FORM's CARD OF 'lookasidelaw09.FaultTells'. -/
def faultTellsUptoCard : Claim7 := { stood := { row := faultTellsUptoRow, standIns := [], harness := (true, "8f6328177a1432371e6a3eb7339795671ce632b95120633e92522acd4f542658"), looks := false }, kinds := [], alts := [], laidByText := true, laidKinds := [.data], laidTests := true, laidLooks := .later }
def FaultTellsUptoCardSaid : Prop := Claim7.holds Tryd.pinned (.plain (OpenSpec.upto faultTellsSpec)) faultTellsUptoCard

/-- THE SECOND FORM's CARD OF 'lookasidelaw09.FaultLess'. -/
def faultLessUptoCard : Claim7 := { stood := { row := faultLessUptoRow, standIns := [], harness := (true, "8f6328177a1432371e6a3eb7339795671ce632b95120633e92522acd4f542658"), looks := false }, kinds := [], alts := [], laidByText := true, laidKinds := [.data], laidTests := true, laidLooks := .later }
def FaultLessUptoCardSaid : Prop := Claim7.holds Tryd.pinned (.plain (OpenSpec.upto faultLessSpec)) faultLessUptoCard

/-- THE SECOND FORM's CARD OF 'lookasidelaw09.FaultTaken'. -/
def faultTakenUptoCard : Claim7 := { stood := { row := faultTakenUptoRow, standIns := [], harness := (true, "8f6328177a1432371e6a3eb7339795671ce632b95120633e92522acd4f542658"), looks := false }, kinds := [], alts := [], laidByText := true, laidKinds := [.data], laidTests := true, laidLooks := .later }
def FaultTakenUptoCardSaid : Prop := Claim7.holds Tryd.pinned (.plain (OpenSpec.upto faultTakenSpec)) faultTakenUptoCard

/-- THE SECOND FORM's CARD OF 'lookasidelaw09.FaultRows'. -/
def faultRowsUptoCard : Claim7 := { stood := { row := faultRowsUptoRow, standIns := [], harness := (true, "8f6328177a1432371e6a3eb7339795671ce632b95120633e92522acd4f542658"), looks := false }, kinds := [], alts := [], laidByText := true, laidKinds := [.data], laidTests := true, laidLooks := .later }
def FaultRowsUptoCardSaid : Prop := Claim7.holds Tryd.pinned (.plain (OpenSpec.upto faultRowsSpec)) faultRowsUptoCard
end Rows
end Go.Proofs.YtfkbloclogeacaaDoor
