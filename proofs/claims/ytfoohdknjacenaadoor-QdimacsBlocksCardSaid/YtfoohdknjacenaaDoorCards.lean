/-
  DERIVED. GIVEN WITH THE SEED: THE CARDS: each row of YtfoohdknjacenaaDoorRows.lean that lists a variable, with what it lists TIED to the program's text (the seventh form; the later family's looks); each row that meets fmt, with fmt's text TOLD by the authors' own Lean function (tested against real Go, not proved from fmt's source: count such statements apart). THE CARD IS WHAT COUNTS. Prove the row's statement (the work); the ties are given (YtfoohdknjacenaaDoorTie.lean); close each card by the builder's one call (the guide's Derived/Test/ToyasCard.lean, 'card_holds'). Laid BY PROGRAM, IN A SANDBOX (cutbox-door.mjs). By AI agents, Wed Nov 11 2026. No macro, syntax, notation, axiom, sorry.
-/
import Derived.Test.YtfoohdknjacenaaDoorRows
import GoSem.ClaimSeven
namespace Go.Proofs.YtfoohdknjacenaaDoor
namespace Rows

/-- THE TIED CARD OF 'skolemlaw5.QdimacsBlocks'. -/
def qdimacsBlocksCard : Claim7 := { stood := { row := qdimacsBlocksRow, standIns := [], harness := (true, "73c13fb3209a76d8e49c5f920ac985a1cd3aa1e17ea544f2bc2786ab8ebe0600"), looks := true }, kinds := [], alts := [], laidByText := true, laidKinds := [.data, .data, .data, .handle, .sentinel, .sentinel, .sentinel, .sentinel, .sentinel, .sentinel, .sentinel, .sentinel], laidTests := true, laidLooks := .later }
def QdimacsBlocksCardSaid : Prop := Claim7.holds Tryd.pinned (.plain (OpenSpec.ofChange qdimacsBlocksSpec)) qdimacsBlocksCard

/-- THE SECOND FORM's CARD OF 'skolemlaw5.QdimacsBlocks'. -/
def qdimacsBlocksUptoCard : Claim7 := { stood := { row := qdimacsBlocksUptoRow, standIns := [], harness := (true, "73c13fb3209a76d8e49c5f920ac985a1cd3aa1e17ea544f2bc2786ab8ebe0600"), looks := true }, kinds := [], alts := [], laidByText := true, laidKinds := [.data, .data, .data, .handle, .sentinel, .sentinel, .sentinel, .sentinel, .sentinel, .sentinel, .sentinel, .sentinel], laidTests := true, laidLooks := .later }
def QdimacsBlocksUptoCardSaid : Prop := Claim7.holds Tryd.pinned (.plain (OpenSpec.upto qdimacsBlocksSpec)) qdimacsBlocksUptoCard
end Rows
end Go.Proofs.YtfoohdknjacenaaDoor
