/-
  DERIVED. GIVEN WITH THE SEED: THE CARDS: each row of YtcefeidfmnggaaaDoorRows.lean that lists a variable, with what it lists TIED to the program's text (the seventh form; the later family's looks); each row that meets fmt, with fmt's text TOLD by the authors' own Lean function (tested against real Go, not proved from fmt's source: count such statements apart). THE CARD IS WHAT COUNTS. Prove the row's statement (the work); the ties are given (YtcefeidfmnggaaaDoorTie.lean); close each card by the builder's one call (the guide's Derived/Test/ToyasCard.lean, 'card_holds'). Laid BY PROGRAM, IN A SANDBOX (cutbox-door.mjs). By AI agents, Wed Nov 11 2026. No macro, syntax, notation, axiom, sorry.
-/
import Derived.Test.YtcefeidfmnggaaaDoorRows
import GoSem.ClaimSeven
namespace Go.Proofs.YtcefeidfmnggaaaDoor
namespace Rows

/-- THE TIED CARD OF 'skolemlaw11.AagReads'. -/
def aagReadsCard : Claim7 := { stood := { row := aagReadsRow, standIns := [], harness := (true, "8d9aecc54b7b114e5adf64bb1b8e0b3dc770bbd1c9e2a0e42cf98252d35bc5df"), looks := true }, kinds := [], alts := [], laidByText := true, laidKinds := [.data, .data, .data, .sentinel, .sentinel, .sentinel, .sentinel, .sentinel, .sentinel, .sentinel], laidTests := true, laidLooks := .later }
def AagReadsCardSaid : Prop := Claim7.holds Tryd.pinned (.plain (OpenSpec.ofChange aagReadsSpec)) aagReadsCard

/-- THE TIED CARD OF 'skolemlaw11.AagBack'. -/
def aagBackCard : Claim7 := { stood := { row := aagBackRow, standIns := [], harness := (true, "8d9aecc54b7b114e5adf64bb1b8e0b3dc770bbd1c9e2a0e42cf98252d35bc5df"), looks := true }, kinds := [], alts := [], laidByText := true, laidKinds := [.data, .data, .data, .sentinel, .sentinel, .sentinel, .sentinel, .sentinel, .sentinel, .sentinel], laidTests := true, laidLooks := .later }
def AagBackCardSaid : Prop := Claim7.holds Tryd.pinned (.plain (OpenSpec.ofChange aagBackSpec)) aagBackCard

/-- THE TIED CARD OF 'skolemlaw11.AagTurned'. -/
def aagTurnedCard : Claim7 := { stood := { row := aagTurnedRow, standIns := [], harness := (true, "8d9aecc54b7b114e5adf64bb1b8e0b3dc770bbd1c9e2a0e42cf98252d35bc5df"), looks := true }, kinds := [], alts := [], laidByText := true, laidKinds := [.data, .data, .data, .sentinel, .sentinel, .sentinel, .sentinel, .sentinel, .sentinel, .sentinel], laidTests := true, laidLooks := .later }
def AagTurnedCardSaid : Prop := Claim7.holds Tryd.pinned (.plain (OpenSpec.ofChange aagTurnedSpec)) aagTurnedCard

/-- THE SECOND FORM's CARD OF 'skolemlaw11.AagReads'. -/
def aagReadsUptoCard : Claim7 := { stood := { row := aagReadsUptoRow, standIns := [], harness := (true, "8d9aecc54b7b114e5adf64bb1b8e0b3dc770bbd1c9e2a0e42cf98252d35bc5df"), looks := true }, kinds := [], alts := [], laidByText := true, laidKinds := [.data, .data, .data, .sentinel, .sentinel, .sentinel, .sentinel, .sentinel, .sentinel, .sentinel], laidTests := true, laidLooks := .later }
def AagReadsUptoCardSaid : Prop := Claim7.holds Tryd.pinned (.plain (OpenSpec.upto aagReadsSpec)) aagReadsUptoCard

/-- THE SECOND FORM's CARD OF 'skolemlaw11.AagBack'. -/
def aagBackUptoCard : Claim7 := { stood := { row := aagBackUptoRow, standIns := [], harness := (true, "8d9aecc54b7b114e5adf64bb1b8e0b3dc770bbd1c9e2a0e42cf98252d35bc5df"), looks := true }, kinds := [], alts := [], laidByText := true, laidKinds := [.data, .data, .data, .sentinel, .sentinel, .sentinel, .sentinel, .sentinel, .sentinel, .sentinel], laidTests := true, laidLooks := .later }
def AagBackUptoCardSaid : Prop := Claim7.holds Tryd.pinned (.plain (OpenSpec.upto aagBackSpec)) aagBackUptoCard

/-- THE SECOND FORM's CARD OF 'skolemlaw11.AagTurned'. -/
def aagTurnedUptoCard : Claim7 := { stood := { row := aagTurnedUptoRow, standIns := [], harness := (true, "8d9aecc54b7b114e5adf64bb1b8e0b3dc770bbd1c9e2a0e42cf98252d35bc5df"), looks := true }, kinds := [], alts := [], laidByText := true, laidKinds := [.data, .data, .data, .sentinel, .sentinel, .sentinel, .sentinel, .sentinel, .sentinel, .sentinel], laidTests := true, laidLooks := .later }
def AagTurnedUptoCardSaid : Prop := Claim7.holds Tryd.pinned (.plain (OpenSpec.upto aagTurnedSpec)) aagTurnedUptoCard
end Rows
end Go.Proofs.YtcefeidfmnggaaaDoor
