/-
  DERIVED. GIVEN WITH THE SEED: THE CARDS: each row of YtcodmijphejfdaaDoorRows.lean that lists a variable, with what it lists TIED to the program's text (the seventh form; the later family's looks); each row that meets fmt, with fmt's text TOLD by the authors' own Lean function (tested against real Go, not proved from fmt's source: count such statements apart). THE CARD IS WHAT COUNTS. Prove the row's statement (the work); the ties are given (YtcodmijphejfdaaDoorTie.lean); close each card by the builder's one call (the guide's Derived/Test/ToyasCard.lean, 'card_holds'). Laid BY PROGRAM, IN A SANDBOX (cutbox-door.mjs). By AI agents, Wed Nov 11 2026. No macro, syntax, notation, axiom, sorry.
-/
import Derived.Test.YtcodmijphejfdaaDoorRows
import GoSem.ClaimSeven
namespace Go.Proofs.YtcodmijphejfdaaDoor
namespace Rows

/-- THE TIED CARD OF 'skolemlaw6.PrefixSays'. -/
def prefixSaysCard : Claim7 := { stood := { row := prefixSaysRow, standIns := [], harness := (true, "8b122f7ebadcfcb1d8ddfc5b5c90a82092f0923761ce3e4c4cf7140a3da52833"), looks := true }, kinds := [], alts := [], laidByText := true, laidKinds := [.sentinel, .sentinel, .sentinel, .sentinel, .sentinel, .sentinel, .sentinel], laidTests := true, laidLooks := .later }
def PrefixSaysCardSaid : Prop := Claim7.holds Tryd.pinned (.plain (OpenSpec.ofChange prefixSaysSpec)) prefixSaysCard

/-- THE TIED CARD OF 'skolemlaw7.SlowTurns'. -/
def slowTurnsCard : Claim7 := { stood := { row := slowTurnsRow, standIns := [], harness := (true, "8b122f7ebadcfcb1d8ddfc5b5c90a82092f0923761ce3e4c4cf7140a3da52833"), looks := true }, kinds := [], alts := [], laidByText := true, laidKinds := [.sentinel, .sentinel], laidTests := true, laidLooks := .later }
def SlowTurnsCardSaid : Prop := Claim7.holds Tryd.pinned (.plain (OpenSpec.ofChange slowTurnsSpec)) slowTurnsCard

/-- THE SECOND FORM's CARD OF 'skolemlaw6.PrefixSays'. -/
def prefixSaysUptoCard : Claim7 := { stood := { row := prefixSaysUptoRow, standIns := [], harness := (true, "8b122f7ebadcfcb1d8ddfc5b5c90a82092f0923761ce3e4c4cf7140a3da52833"), looks := true }, kinds := [], alts := [], laidByText := true, laidKinds := [.sentinel, .sentinel, .sentinel, .sentinel, .sentinel, .sentinel, .sentinel], laidTests := true, laidLooks := .later }
def PrefixSaysUptoCardSaid : Prop := Claim7.holds Tryd.pinned (.plain (OpenSpec.upto prefixSaysSpec)) prefixSaysUptoCard

/-- THE SECOND FORM's CARD OF 'skolemlaw7.SlowTurns'. -/
def slowTurnsUptoCard : Claim7 := { stood := { row := slowTurnsUptoRow, standIns := [], harness := (true, "8b122f7ebadcfcb1d8ddfc5b5c90a82092f0923761ce3e4c4cf7140a3da52833"), looks := true }, kinds := [], alts := [], laidByText := true, laidKinds := [.sentinel, .sentinel], laidTests := true, laidLooks := .later }
def SlowTurnsUptoCardSaid : Prop := Claim7.holds Tryd.pinned (.plain (OpenSpec.upto slowTurnsSpec)) slowTurnsUptoCard
end Rows
end Go.Proofs.YtcodmijphejfdaaDoor
