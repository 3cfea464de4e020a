/-
  DERIVED. GIVEN WITH THE SEED: THE CARDS: each row of YtohcmijgakijfaaDoorRows.lean that lists a variable, with what it lists TIED to the program's text (the seventh form; the later family's looks); each row that meets fmt, with fmt's text TOLD by the authors' own Lean function (tested against real Go, not proved from fmt's source: count such statements apart). THE CARD IS WHAT COUNTS. Prove the row's statement (the work); the ties are given (YtohcmijgakijfaaDoorTie.lean); close each card by the builder's one call (the guide's Derived/Test/ToyasCard.lean, 'card_holds'). Laid BY PROGRAM, IN A SANDBOX (cutbox-door.mjs). By AI agents, Wed Nov 11 2026. No macro, syntax, notation, axiom, sorry.
-/
import Derived.Test.YtohcmijgakijfaaDoorRows
import GoSem.ClaimSeven
namespace Go.Proofs.YtohcmijgakijfaaDoor
namespace Rows

/-- THE TIED CARD OF 'lookasidelaw07.RegsPlays'. -/
def regsPlaysCard : Claim7 := { stood := { row := regsPlaysRow, standIns := [], harness := (true, "75548c9c9c8ee27bc9409d989ccfaa85cd2da2b8066adc9e78e1751f06ded4ad"), looks := false }, kinds := [], alts := [], laidByText := true, laidKinds := [.data], laidTests := true, laidLooks := .later }
def RegsPlaysCardSaid : Prop := Claim7.holds Tryd.pinned (.plain (OpenSpec.ofChange regsPlaysSpec)) regsPlaysCard

/-- THE TIED CARD OF 'lookasidelaw07.RegsTwice'. -/
def regsTwiceCard : Claim7 := { stood := { row := regsTwiceRow, standIns := [], harness := (true, "75548c9c9c8ee27bc9409d989ccfaa85cd2da2b8066adc9e78e1751f06ded4ad"), looks := false }, kinds := [], alts := [], laidByText := true, laidKinds := [.data], laidTests := true, laidLooks := .later }
def RegsTwiceCardSaid : Prop := Claim7.holds Tryd.pinned (.plain (OpenSpec.ofChange regsTwiceSpec)) regsTwiceCard

/-- THE TIED CARD OF 'lookasidelaw07.RegsOwn'. -/
def regsOwnCard : Claim7 := { stood := { row := regsOwnRow, standIns := [], harness := (true, "75548c9c9c8ee27bc9409d989ccfaa85cd2da2b8066adc9e78e1751f06ded4ad"), looks := false }, kinds := [], alts := [], laidByText := true, laidKinds := [.data], laidTests := true, laidLooks := .later }
def RegsOwnCardSaid : Prop := Claim7.holds Tryd.pinned (.plain (OpenSpec.ofChange regsOwnSpec)) regsOwnCard

/-- THE TIED CARD OF 'lookasidelaw07.RegsMisses'. -/
def regsMissesCard : Claim7 := { stood := { row := regsMissesRow, standIns := [], harness := (true, "75548c9c9c8ee27bc9409d989ccfaa85cd2da2b8066adc9e78e1751f06ded4ad"), looks := false }, kinds := [], alts := [], laidByText := true, laidKinds := [.data], laidTests := true, laidLooks := .later }
def RegsMissesCardSaid : Prop := Claim7.holds Tryd.pinned (.plain (OpenSpec.ofChange regsMissesSpec)) regsMissesCard

/-- THE TIED CARD OF 'lookasidelaw07.RegsBits'. -/
def regsBitsCard : Claim7 := { stood := { row := regsBitsRow, standIns := [], harness := (true, "75548c9c9c8ee27bc9409d989ccfaa85cd2da2b8066adc9e78e1751f06ded4ad"), looks := false }, kinds := [], alts := [], laidByText := true, laidKinds := [.data], laidTests := true, laidLooks := .later }
def RegsBitsCardSaid : Prop := Claim7.holds Tryd.pinned (.plain (OpenSpec.ofChange regsBitsSpec)) regsBitsCard

/-- THE SECOND FORM's CARD OF 'lookasidelaw07.RegsPlays'. -/
def regsPlaysUptoCard : Claim7 := { stood := { row := regsPlaysUptoRow, standIns := [], harness := (true, "75548c9c9c8ee27bc9409d989ccfaa85cd2da2b8066adc9e78e1751f06ded4ad"), looks := false }, kinds := [], alts := [], laidByText := true, laidKinds := [.data], laidTests := true, laidLooks := .later }
def RegsPlaysUptoCardSaid : Prop := Claim7.holds Tryd.pinned (.plain (OpenSpec.upto regsPlaysSpec)) regsPlaysUptoCard

/-- THE SECOND FORM's CARD OF 'lookasidelaw07.RegsTwice'. -/
def regsTwiceUptoCard : Claim7 := { stood := { row := regsTwiceUptoRow, standIns := [], harness := (true, "75548c9c9c8ee27bc9409d989ccfaa85cd2da2b8066adc9e78e1751f06ded4ad"), looks := false }, kinds := [], alts := [], laidByText := true, laidKinds := [.data], laidTests := true, laidLooks := .later }
def RegsTwiceUptoCardSaid : Prop := Claim7.holds Tryd.pinned (.plain (OpenSpec.upto regsTwiceSpec)) regsTwiceUptoCard

/-- THE SECOND FORM's CARD OF 'lookasidelaw07.RegsOwn'. -/
def regsOwnUptoCard : Claim7 := { stood := { row := regsOwnUptoRow, standIns := [], harness := (true, "75548c9c9c8ee27bc9409d989ccfaa85cd2da2b8066adc9e78e1751f06ded4ad"), looks := false }, kinds := [], alts := [], laidByText := true, laidKinds := [.data], laidTests := true, laidLooks := .later }
def RegsOwnUptoCardSaid : Prop := Claim7.holds Tryd.pinned (.plain (OpenSpec.upto regsOwnSpec)) regsOwnUptoCard

/-- THE SECOND FORM's CARD OF 'lookasidelaw07.RegsMisses'. -/
def regsMissesUptoCard : Claim7 := { stood := { row := regsMissesUptoRow, standIns := [], harness := (true, "75548c9c9c8ee27bc9409d989ccfaa85cd2da2b8066adc9e78e1751f06ded4ad"), looks := false }, kinds := [], alts := [], laidByText := true, laidKinds := [.data], laidTests := true, laidLooks := .later }
def RegsMissesUptoCardSaid : Prop := Claim7.holds Tryd.pinned (.plain (OpenSpec.upto regsMissesSpec)) regsMissesUptoCard

/-- THE SECOND FORM's CARD OF 'lookasidelaw07.RegsBits'. -/
def regsBitsUptoCard : Claim7 := { stood := { row := regsBitsUptoRow, standIns := [], harness := (true, "75548c9c9c8ee27bc9409d989ccfaa85cd2da2b8066adc9e78e1751f06ded4ad"), looks := false }, kinds := [], alts := [], laidByText := true, laidKinds := [.data], laidTests := true, laidLooks := .later }
def RegsBitsUptoCardSaid : Prop := Claim7.holds Tryd.pinned (.plain (OpenSpec.upto regsBitsSpec)) regsBitsUptoCard
end Rows
end Go.Proofs.YtohcmijgakijfaaDoor
