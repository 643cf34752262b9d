/-
  DERIVED. GIVEN WITH THE SEED: THE CARDS: each row of YtmohdhifilclbaaDoorRows.lean that lists a variable, with what it lists TIED to the program's text (the seventh form; the later family's looks); each row that meets fmt, with fmt's text TOLD by the authors' own Lean function (tested against real Go, not proved from fmt's source: count such statements apart). THE CARD IS WHAT COUNTS. Prove the row's statement (the work); the ties are given (YtmohdhifilclbaaDoorTie.lean); close each card by the builder's one call (the guide's Derived/Test/ToyasCard.lean, 'card_holds'). Laid BY PROGRAM, IN A SANDBOX (cutbox-door.mjs). By AI agents, Wed Nov 11 2026. No macro, syntax, notation, axiom, sorry.
-/
import Derived.Test.YtmohdhifilclbaaDoorRows
import GoSem.ClaimSeven
namespace Go.Proofs.YtmohdhifilclbaaDoor
namespace Rows

/-- THE TIED CARD OF 'skolemlaw6.PrefixSays'. -/
def prefixSaysCard : Claim7 := { stood := { row := prefixSaysRow, standIns := [], harness := (true, "172e95a1b6e5d3e40722071c1396515c6dba1ba0905d3d873019aad86d54efad"), looks := true }, kinds := [], alts := [], laidByText := true, laidKinds := [.sentinel, .sentinel, .sentinel, .sentinel, .sentinel, .sentinel, .sentinel], laidTests := true, laidLooks := .later }
def PrefixSaysCardSaid : Prop := Claim7.holds Tryd.pinned (.plain (OpenSpec.ofChange prefixSaysSpec)) prefixSaysCard

/-- THE TIED CARD OF 'skolemlaw6.PrefixMatrix'. -/
def prefixMatrixCard : Claim7 := { stood := { row := prefixMatrixRow, standIns := [], harness := (true, "172e95a1b6e5d3e40722071c1396515c6dba1ba0905d3d873019aad86d54efad"), looks := true }, kinds := [], alts := [], laidByText := true, laidKinds := [.sentinel, .sentinel, .sentinel], laidTests := true, laidLooks := .later }
def PrefixMatrixCardSaid : Prop := Claim7.holds Tryd.pinned (.plain (OpenSpec.ofChange prefixMatrixSpec)) prefixMatrixCard

/-- THE TIED CARD OF 'skolemlaw6.PrefixMerges'. -/
def prefixMergesCard : Claim7 := { stood := { row := prefixMergesRow, standIns := [], harness := (true, "172e95a1b6e5d3e40722071c1396515c6dba1ba0905d3d873019aad86d54efad"), looks := true }, kinds := [], alts := [], laidByText := true, laidKinds := [.sentinel, .sentinel, .sentinel], laidTests := true, laidLooks := .later }
def PrefixMergesCardSaid : Prop := Claim7.holds Tryd.pinned (.plain (OpenSpec.ofChange prefixMergesSpec)) prefixMergesCard

/-- THE TIED CARD OF 'skolemlaw6.PrefixFree'. -/
def prefixFreeCard : Claim7 := { stood := { row := prefixFreeRow, standIns := [], harness := (true, "172e95a1b6e5d3e40722071c1396515c6dba1ba0905d3d873019aad86d54efad"), looks := true }, kinds := [], alts := [], laidByText := true, laidKinds := [.sentinel, .sentinel, .sentinel], laidTests := true, laidLooks := .later }
def PrefixFreeCardSaid : Prop := Claim7.holds Tryd.pinned (.plain (OpenSpec.ofChange prefixFreeSpec)) prefixFreeCard

/-- THE TIED CARD OF 'skolemlaw6.PrefixBlocks'. -/
def prefixBlocksCard : Claim7 := { stood := { row := prefixBlocksRow, standIns := [], harness := (true, "172e95a1b6e5d3e40722071c1396515c6dba1ba0905d3d873019aad86d54efad"), looks := true }, kinds := [], alts := [], laidByText := true, laidKinds := [.sentinel, .sentinel, .sentinel, .sentinel, .sentinel, .sentinel, .sentinel], laidTests := true, laidLooks := .later }
def PrefixBlocksCardSaid : Prop := Claim7.holds Tryd.pinned (.plain (OpenSpec.ofChange prefixBlocksSpec)) prefixBlocksCard

/-- THE SECOND FORM's CARD OF 'skolemlaw6.PrefixSays'. -/
def prefixSaysUptoCard : Claim7 := { stood := { row := prefixSaysUptoRow, standIns := [], harness := (true, "172e95a1b6e5d3e40722071c1396515c6dba1ba0905d3d873019aad86d54efad"), looks := true }, kinds := [], alts := [], laidByText := true, laidKinds := [.sentinel, .sentinel, .sentinel, .sentinel, .sentinel, .sentinel, .sentinel], laidTests := true, laidLooks := .later }
def PrefixSaysUptoCardSaid : Prop := Claim7.holds Tryd.pinned (.plain (OpenSpec.upto prefixSaysSpec)) prefixSaysUptoCard

/-- THE SECOND FORM's CARD OF 'skolemlaw6.PrefixMatrix'. -/
def prefixMatrixUptoCard : Claim7 := { stood := { row := prefixMatrixUptoRow, standIns := [], harness := (true, "172e95a1b6e5d3e40722071c1396515c6dba1ba0905d3d873019aad86d54efad"), looks := true }, kinds := [], alts := [], laidByText := true, laidKinds := [.sentinel, .sentinel, .sentinel], laidTests := true, laidLooks := .later }
def PrefixMatrixUptoCardSaid : Prop := Claim7.holds Tryd.pinned (.plain (OpenSpec.upto prefixMatrixSpec)) prefixMatrixUptoCard

/-- THE SECOND FORM's CARD OF 'skolemlaw6.PrefixMerges'. -/
def prefixMergesUptoCard : Claim7 := { stood := { row := prefixMergesUptoRow, standIns := [], harness := (true, "172e95a1b6e5d3e40722071c1396515c6dba1ba0905d3d873019aad86d54efad"), looks := true }, kinds := [], alts := [], laidByText := true, laidKinds := [.sentinel, .sentinel, .sentinel], laidTests := true, laidLooks := .later }
def PrefixMergesUptoCardSaid : Prop := Claim7.holds Tryd.pinned (.plain (OpenSpec.upto prefixMergesSpec)) prefixMergesUptoCard

/-- THE SECOND FORM's CARD OF 'skolemlaw6.PrefixFree'. -/
def prefixFreeUptoCard : Claim7 := { stood := { row := prefixFreeUptoRow, standIns := [], harness := (true, "172e95a1b6e5d3e40722071c1396515c6dba1ba0905d3d873019aad86d54efad"), looks := true }, kinds := [], alts := [], laidByText := true, laidKinds := [.sentinel, .sentinel, .sentinel], laidTests := true, laidLooks := .later }
def PrefixFreeUptoCardSaid : Prop := Claim7.holds Tryd.pinned (.plain (OpenSpec.upto prefixFreeSpec)) prefixFreeUptoCard

/-- THE SECOND FORM's CARD OF 'skolemlaw6.PrefixBlocks'. -/
def prefixBlocksUptoCard : Claim7 := { stood := { row := prefixBlocksUptoRow, standIns := [], harness := (true, "172e95a1b6e5d3e40722071c1396515c6dba1ba0905d3d873019aad86d54efad"), looks := true }, kinds := [], alts := [], laidByText := true, laidKinds := [.sentinel, .sentinel, .sentinel, .sentinel, .sentinel, .sentinel, .sentinel], laidTests := true, laidLooks := .later }
def PrefixBlocksUptoCardSaid : Prop := Claim7.holds Tryd.pinned (.plain (OpenSpec.upto prefixBlocksSpec)) prefixBlocksUptoCard
end Rows
end Go.Proofs.YtmohdhifilclbaaDoor
