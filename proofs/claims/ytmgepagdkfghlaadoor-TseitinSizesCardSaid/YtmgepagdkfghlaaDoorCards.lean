/-
  DERIVED. GIVEN WITH THE SEED: THE CARDS: each row of YtmgepagdkfghlaaDoorRows.lean that lists a variable, with what it lists TIED to the program's text (the seventh form; the later family's looks); each row that meets fmt, with fmt's text TOLD by the authors' own Lean function (tested against real Go, not proved from fmt's source: count such statements apart). THE CARD IS WHAT COUNTS. Prove the row's statement (the work); the ties are given (YtmgepagdkfghlaaDoorTie.lean); close each card by the builder's one call (the guide's Derived/Test/ToyasCard.lean, 'card_holds'). Laid BY PROGRAM, IN A SANDBOX (cutbox-door.mjs). By AI agents, Wed Nov 11 2026. No macro, syntax, notation, axiom, sorry.
-/
import Derived.Test.YtmgepagdkfghlaaDoorRows
import GoSem.ClaimSeven
namespace Go.Proofs.YtmgepagdkfghlaaDoor
namespace Rows

/-- THE TIED CARD OF 'skolemlaw13.TseitinSays'. -/
def tseitinSaysCard : Claim7 := { stood := { row := tseitinSaysRow, standIns := [], harness := (true, "53f9e64045b36dfb80aba314bf1c1050465307f75c6852cbdc0a5aa88789a880"), looks := true }, kinds := [], alts := [], laidByText := true, laidKinds := [.sentinel, .sentinel, .sentinel, .sentinel, .sentinel, .sentinel, .sentinel], laidTests := true, laidLooks := .later }
def TseitinSaysCardSaid : Prop := Claim7.holds Tryd.pinned (.plain (OpenSpec.ofChange tseitinSaysSpec)) tseitinSaysCard

/-- THE TIED CARD OF 'skolemlaw13.TseitinOnly'. -/
def tseitinOnlyCard : Claim7 := { stood := { row := tseitinOnlyRow, standIns := [], harness := (true, "53f9e64045b36dfb80aba314bf1c1050465307f75c6852cbdc0a5aa88789a880"), looks := true }, kinds := [], alts := [], laidByText := true, laidKinds := [.sentinel, .sentinel], laidTests := true, laidLooks := .later }
def TseitinOnlyCardSaid : Prop := Claim7.holds Tryd.pinned (.plain (OpenSpec.ofChange tseitinOnlySpec)) tseitinOnlyCard

/-- THE TIED CARD OF 'skolemlaw13.TseitinForces'. -/
def tseitinForcesCard : Claim7 := { stood := { row := tseitinForcesRow, standIns := [], harness := (true, "53f9e64045b36dfb80aba314bf1c1050465307f75c6852cbdc0a5aa88789a880"), looks := true }, kinds := [], alts := [], laidByText := true, laidKinds := [.sentinel, .sentinel], laidTests := true, laidLooks := .later }
def TseitinForcesCardSaid : Prop := Claim7.holds Tryd.pinned (.plain (OpenSpec.ofChange tseitinForcesSpec)) tseitinForcesCard

/-- THE TIED CARD OF 'skolemlaw13.TseitinSizes'. -/
def tseitinSizesCard : Claim7 := { stood := { row := tseitinSizesRow, standIns := [], harness := (true, "53f9e64045b36dfb80aba314bf1c1050465307f75c6852cbdc0a5aa88789a880"), looks := true }, kinds := [], alts := [], laidByText := true, laidKinds := [.sentinel, .sentinel], laidTests := true, laidLooks := .later }
def TseitinSizesCardSaid : Prop := Claim7.holds Tryd.pinned (.plain (OpenSpec.ofChange tseitinSizesSpec)) tseitinSizesCard

/-- THE SECOND FORM's CARD OF 'skolemlaw13.TseitinSays'. -/
def tseitinSaysUptoCard : Claim7 := { stood := { row := tseitinSaysUptoRow, standIns := [], harness := (true, "53f9e64045b36dfb80aba314bf1c1050465307f75c6852cbdc0a5aa88789a880"), looks := true }, kinds := [], alts := [], laidByText := true, laidKinds := [.sentinel, .sentinel, .sentinel, .sentinel, .sentinel, .sentinel, .sentinel], laidTests := true, laidLooks := .later }
def TseitinSaysUptoCardSaid : Prop := Claim7.holds Tryd.pinned (.plain (OpenSpec.upto tseitinSaysSpec)) tseitinSaysUptoCard

/-- THE SECOND FORM's CARD OF 'skolemlaw13.TseitinOnly'. -/
def tseitinOnlyUptoCard : Claim7 := { stood := { row := tseitinOnlyUptoRow, standIns := [], harness := (true, "53f9e64045b36dfb80aba314bf1c1050465307f75c6852cbdc0a5aa88789a880"), looks := true }, kinds := [], alts := [], laidByText := true, laidKinds := [.sentinel, .sentinel], laidTests := true, laidLooks := .later }
def TseitinOnlyUptoCardSaid : Prop := Claim7.holds Tryd.pinned (.plain (OpenSpec.upto tseitinOnlySpec)) tseitinOnlyUptoCard

/-- THE SECOND FORM's CARD OF 'skolemlaw13.TseitinForces'. -/
def tseitinForcesUptoCard : Claim7 := { stood := { row := tseitinForcesUptoRow, standIns := [], harness := (true, "53f9e64045b36dfb80aba314bf1c1050465307f75c6852cbdc0a5aa88789a880"), looks := true }, kinds := [], alts := [], laidByText := true, laidKinds := [.sentinel, .sentinel], laidTests := true, laidLooks := .later }
def TseitinForcesUptoCardSaid : Prop := Claim7.holds Tryd.pinned (.plain (OpenSpec.upto tseitinForcesSpec)) tseitinForcesUptoCard

/-- THE SECOND FORM's CARD OF 'skolemlaw13.TseitinSizes'. -/
def tseitinSizesUptoCard : Claim7 := { stood := { row := tseitinSizesUptoRow, standIns := [], harness := (true, "53f9e64045b36dfb80aba314bf1c1050465307f75c6852cbdc0a5aa88789a880"), looks := true }, kinds := [], alts := [], laidByText := true, laidKinds := [.sentinel, .sentinel], laidTests := true, laidLooks := .later }
def TseitinSizesUptoCardSaid : Prop := Claim7.holds Tryd.pinned (.plain (OpenSpec.upto tseitinSizesSpec)) tseitinSizesUptoCard
end Rows
end Go.Proofs.YtmgepagdkfghlaaDoor
