/-
  DERIVED. GIVEN WITH THE SEED: THE CARDS: each row of YtbighmmjmklioaaDoorRows.lean that lists a variable, with what it lists TIED to the program's text (the seventh form; the later family's looks); each row that meets fmt, with fmt's text TOLD by the authors' own Lean function (tested against real Go, not proved from fmt's source: count such statements apart). THE CARD IS WHAT COUNTS. Prove the row's statement (the work); the ties are given (YtbighmmjmklioaaDoorTie.lean); close each card by the builder's one call (the guide's Derived/Test/ToyasCard.lean, 'card_holds'). Laid BY PROGRAM, IN A SANDBOX (cutbox-door.mjs). By AI agents, Wed Nov 11 2026. No macro, syntax, notation, axiom, sorry.
-/
import Derived.Test.YtbighmmjmklioaaDoorRows
import GoSem.ClaimSeven
namespace Go.Proofs.YtbighmmjmklioaaDoor
namespace Rows

/-- THE TIED CARD OF 'skolemlaw9.GateSays'. -/
def gateSaysCard : Claim7 := { stood := { row := gateSaysRow, standIns := [], harness := (true, "2a7d3303dca282bbade730ba1b0e51efcd5afb61ce744fc29b3781f21abca505"), looks := true }, kinds := [], alts := [], laidByText := true, laidKinds := [.sentinel, .sentinel], laidTests := true, laidLooks := .later }
def GateSaysCardSaid : Prop := Claim7.holds Tryd.pinned (.plain (OpenSpec.ofChange gateSaysSpec)) gateSaysCard

/-- THE TIED CARD OF 'skolemlaw9.GateWorth'. -/
def gateWorthCard : Claim7 := { stood := { row := gateWorthRow, standIns := [], harness := (true, "2a7d3303dca282bbade730ba1b0e51efcd5afb61ce744fc29b3781f21abca505"), looks := true }, kinds := [], alts := [], laidByText := true, laidKinds := [.sentinel, .sentinel], laidTests := true, laidLooks := .later }
def GateWorthCardSaid : Prop := Claim7.holds Tryd.pinned (.plain (OpenSpec.ofChange gateWorthSpec)) gateWorthCard

/-- THE TIED CARD OF 'skolemlaw9.GateClauses'. -/
def gateClausesCard : Claim7 := { stood := { row := gateClausesRow, standIns := [], harness := (true, "2a7d3303dca282bbade730ba1b0e51efcd5afb61ce744fc29b3781f21abca505"), looks := true }, kinds := [], alts := [], laidByText := true, laidKinds := [.sentinel, .sentinel], laidTests := true, laidLooks := .later }
def GateClausesCardSaid : Prop := Claim7.holds Tryd.pinned (.plain (OpenSpec.ofChange gateClausesSpec)) gateClausesCard

/-- THE TIED CARD OF 'skolemlaw9.GateLaws'. -/
def gateLawsCard : Claim7 := { stood := { row := gateLawsRow, standIns := [], harness := (true, "2a7d3303dca282bbade730ba1b0e51efcd5afb61ce744fc29b3781f21abca505"), looks := true }, kinds := [], alts := [], laidByText := true, laidKinds := [.sentinel, .sentinel], laidTests := true, laidLooks := .later }
def GateLawsCardSaid : Prop := Claim7.holds Tryd.pinned (.plain (OpenSpec.ofChange gateLawsSpec)) gateLawsCard

/-- THE TIED CARD OF 'skolemlaw8.GraphBuilds'. -/
def graphBuildsCard : Claim7 := { stood := { row := graphBuildsRow, standIns := [], harness := (true, "2a7d3303dca282bbade730ba1b0e51efcd5afb61ce744fc29b3781f21abca505"), looks := true }, kinds := [], alts := [], laidByText := true, laidKinds := [.sentinel, .sentinel, .sentinel, .sentinel, .sentinel, .sentinel, .sentinel], laidTests := true, laidLooks := .later }
def GraphBuildsCardSaid : Prop := Claim7.holds Tryd.pinned (.plain (OpenSpec.ofChange graphBuildsSpec)) graphBuildsCard

/-- THE TIED CARD OF 'skolemlaw8.GraphWorth'. -/
def graphWorthCard : Claim7 := { stood := { row := graphWorthRow, standIns := [], harness := (true, "2a7d3303dca282bbade730ba1b0e51efcd5afb61ce744fc29b3781f21abca505"), looks := true }, kinds := [], alts := [], laidByText := true, laidKinds := [.sentinel, .sentinel], laidTests := true, laidLooks := .later }
def GraphWorthCardSaid : Prop := Claim7.holds Tryd.pinned (.plain (OpenSpec.ofChange graphWorthSpec)) graphWorthCard

/-- THE SECOND FORM's CARD OF 'skolemlaw9.GateSays'. -/
def gateSaysUptoCard : Claim7 := { stood := { row := gateSaysUptoRow, standIns := [], harness := (true, "2a7d3303dca282bbade730ba1b0e51efcd5afb61ce744fc29b3781f21abca505"), looks := true }, kinds := [], alts := [], laidByText := true, laidKinds := [.sentinel, .sentinel], laidTests := true, laidLooks := .later }
def GateSaysUptoCardSaid : Prop := Claim7.holds Tryd.pinned (.plain (OpenSpec.upto gateSaysSpec)) gateSaysUptoCard

/-- THE SECOND FORM's CARD OF 'skolemlaw9.GateWorth'. -/
def gateWorthUptoCard : Claim7 := { stood := { row := gateWorthUptoRow, standIns := [], harness := (true, "2a7d3303dca282bbade730ba1b0e51efcd5afb61ce744fc29b3781f21abca505"), looks := true }, kinds := [], alts := [], laidByText := true, laidKinds := [.sentinel, .sentinel], laidTests := true, laidLooks := .later }
def GateWorthUptoCardSaid : Prop := Claim7.holds Tryd.pinned (.plain (OpenSpec.upto gateWorthSpec)) gateWorthUptoCard

/-- THE SECOND FORM's CARD OF 'skolemlaw9.GateClauses'. -/
def gateClausesUptoCard : Claim7 := { stood := { row := gateClausesUptoRow, standIns := [], harness := (true, "2a7d3303dca282bbade730ba1b0e51efcd5afb61ce744fc29b3781f21abca505"), looks := true }, kinds := [], alts := [], laidByText := true, laidKinds := [.sentinel, .sentinel], laidTests := true, laidLooks := .later }
def GateClausesUptoCardSaid : Prop := Claim7.holds Tryd.pinned (.plain (OpenSpec.upto gateClausesSpec)) gateClausesUptoCard

/-- THE SECOND FORM's CARD OF 'skolemlaw9.GateLaws'. -/
def gateLawsUptoCard : Claim7 := { stood := { row := gateLawsUptoRow, standIns := [], harness := (true, "2a7d3303dca282bbade730ba1b0e51efcd5afb61ce744fc29b3781f21abca505"), looks := true }, kinds := [], alts := [], laidByText := true, laidKinds := [.sentinel, .sentinel], laidTests := true, laidLooks := .later }
def GateLawsUptoCardSaid : Prop := Claim7.holds Tryd.pinned (.plain (OpenSpec.upto gateLawsSpec)) gateLawsUptoCard

/-- THE SECOND FORM's CARD OF 'skolemlaw8.GraphBuilds'. -/
def graphBuildsUptoCard : Claim7 := { stood := { row := graphBuildsUptoRow, standIns := [], harness := (true, "2a7d3303dca282bbade730ba1b0e51efcd5afb61ce744fc29b3781f21abca505"), looks := true }, kinds := [], alts := [], laidByText := true, laidKinds := [.sentinel, .sentinel, .sentinel, .sentinel, .sentinel, .sentinel, .sentinel], laidTests := true, laidLooks := .later }
def GraphBuildsUptoCardSaid : Prop := Claim7.holds Tryd.pinned (.plain (OpenSpec.upto graphBuildsSpec)) graphBuildsUptoCard

/-- THE SECOND FORM's CARD OF 'skolemlaw8.GraphWorth'. -/
def graphWorthUptoCard : Claim7 := { stood := { row := graphWorthUptoRow, standIns := [], harness := (true, "2a7d3303dca282bbade730ba1b0e51efcd5afb61ce744fc29b3781f21abca505"), looks := true }, kinds := [], alts := [], laidByText := true, laidKinds := [.sentinel, .sentinel], laidTests := true, laidLooks := .later }
def GraphWorthUptoCardSaid : Prop := Claim7.holds Tryd.pinned (.plain (OpenSpec.upto graphWorthSpec)) graphWorthUptoCard
end Rows
end Go.Proofs.YtbighmmjmklioaaDoor
