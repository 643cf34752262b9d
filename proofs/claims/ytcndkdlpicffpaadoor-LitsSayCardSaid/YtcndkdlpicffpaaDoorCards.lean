/-
  DERIVED. GIVEN WITH THE SEED: THE CARDS: each row of YtcndkdlpicffpaaDoorRows.lean that lists a variable, with what it lists TIED to the program's text (the seventh form; the later family's looks); each row that meets fmt, with fmt's text TOLD by the authors' own Lean function (tested against real Go, not proved from fmt's source: count such statements apart). THE CARD IS WHAT COUNTS. Prove the row's statement (the work); the ties are given (YtcndkdlpicffpaaDoorTie.lean); close each card by the builder's one call (the guide's Derived/Test/ToyasCard.lean, 'card_holds'). Laid BY PROGRAM, IN A SANDBOX (cutbox-door.mjs). By AI agents, Wed Nov 11 2026. No macro, syntax, notation, axiom, sorry.
-/
import Derived.Test.YtcndkdlpicffpaaDoorRows
import GoSem.ClaimSeven
namespace Go.Proofs.YtcndkdlpicffpaaDoor
namespace Rows

/-- THE TIED CARD OF 'skolemlaw1.LitsSay'. -/
def litsSayCard : Claim7 := { stood := { row := litsSayRow, standIns := [], harness := (true, "4eefc5671d8b368349506fcf864bc5ca5f1663c69b8694aa72226231e623b3f7"), looks := true }, kinds := [], alts := [], laidByText := true, laidKinds := [.sentinel, .sentinel, .sentinel, .sentinel, .sentinel, .sentinel, .sentinel], laidTests := true, laidLooks := .later }
def LitsSayCardSaid : Prop := Claim7.holds Tryd.pinned (.plain (OpenSpec.ofChange litsSaySpec)) litsSayCard

/-- THE TIED CARD OF 'skolemlaw1.LitsLimits'. -/
def litsLimitsCard : Claim7 := { stood := { row := litsLimitsRow, standIns := [], harness := (true, "4eefc5671d8b368349506fcf864bc5ca5f1663c69b8694aa72226231e623b3f7"), looks := true }, kinds := [], alts := [], laidByText := true, laidKinds := [.sentinel, .sentinel, .sentinel, .sentinel, .sentinel, .sentinel, .sentinel], laidTests := true, laidLooks := .later }
def LitsLimitsCardSaid : Prop := Claim7.holds Tryd.pinned (.plain (OpenSpec.ofChange litsLimitsSpec)) litsLimitsCard

/-- THE SECOND FORM's CARD OF 'skolemlaw1.LitsSay'. -/
def litsSayUptoCard : Claim7 := { stood := { row := litsSayUptoRow, standIns := [], harness := (true, "4eefc5671d8b368349506fcf864bc5ca5f1663c69b8694aa72226231e623b3f7"), looks := true }, kinds := [], alts := [], laidByText := true, laidKinds := [.sentinel, .sentinel, .sentinel, .sentinel, .sentinel, .sentinel, .sentinel], laidTests := true, laidLooks := .later }
def LitsSayUptoCardSaid : Prop := Claim7.holds Tryd.pinned (.plain (OpenSpec.upto litsSaySpec)) litsSayUptoCard

/-- THE SECOND FORM's CARD OF 'skolemlaw1.LitsLimits'. -/
def litsLimitsUptoCard : Claim7 := { stood := { row := litsLimitsUptoRow, standIns := [], harness := (true, "4eefc5671d8b368349506fcf864bc5ca5f1663c69b8694aa72226231e623b3f7"), looks := true }, kinds := [], alts := [], laidByText := true, laidKinds := [.sentinel, .sentinel, .sentinel, .sentinel, .sentinel, .sentinel, .sentinel], laidTests := true, laidLooks := .later }
def LitsLimitsUptoCardSaid : Prop := Claim7.holds Tryd.pinned (.plain (OpenSpec.upto litsLimitsSpec)) litsLimitsUptoCard
end Rows
end Go.Proofs.YtcndkdlpicffpaaDoor
