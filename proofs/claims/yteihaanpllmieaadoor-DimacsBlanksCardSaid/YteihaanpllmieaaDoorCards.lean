/-
  DERIVED. GIVEN WITH THE SEED: THE CARDS: each row of YteihaanpllmieaaDoorRows.lean that lists a variable, with what it lists TIED to the program's text (the seventh form; the later family's looks); each row that meets fmt, with fmt's text TOLD by the authors' own Lean function (tested against real Go, not proved from fmt's source: count such statements apart). THE CARD IS WHAT COUNTS. Prove the row's statement (the work); the ties are given (YteihaanpllmieaaDoorTie.lean); close each card by the builder's one call (the guide's Derived/Test/ToyasCard.lean, 'card_holds'). Laid BY PROGRAM, IN A SANDBOX (cutbox-door.mjs). By AI agents, Wed Nov 11 2026. No macro, syntax, notation, axiom, sorry.
-/
import Derived.Test.YteihaanpllmieaaDoorRows
import GoSem.ClaimSeven
namespace Go.Proofs.YteihaanpllmieaaDoor
namespace Rows

/-- THE TIED CARD OF 'skolemlaw4.DimacsReads'. -/
def dimacsReadsCard : Claim7 := { stood := { row := dimacsReadsRow, standIns := [], harness := (true, "a052c562f160de86135ef57d15254d6e8aac31f18f9e4d444d10def437c2260d"), looks := true }, kinds := [], alts := [], laidByText := true, laidKinds := [.handle, .sentinel, .sentinel, .sentinel, .sentinel, .sentinel, .sentinel, .sentinel, .sentinel], laidTests := true, laidLooks := .later }
def DimacsReadsCardSaid : Prop := Claim7.holds Tryd.pinned (.plain (OpenSpec.ofChange dimacsReadsSpec)) dimacsReadsCard

/-- THE TIED CARD OF 'skolemlaw4.DimacsBytes'. -/
def dimacsBytesCard : Claim7 := { stood := { row := dimacsBytesRow, standIns := [], harness := (true, "a052c562f160de86135ef57d15254d6e8aac31f18f9e4d444d10def437c2260d"), looks := true }, kinds := [], alts := [], laidByText := true, laidKinds := [.data, .data, .data, .handle, .sentinel, .sentinel, .sentinel, .sentinel, .sentinel, .sentinel, .sentinel, .sentinel], laidTests := true, laidLooks := .later }
def DimacsBytesCardSaid : Prop := Claim7.holds Tryd.pinned (.plain (OpenSpec.ofChange dimacsBytesSpec)) dimacsBytesCard

/-- THE TIED CARD OF 'skolemlaw4.DimacsBlanks'. -/
def dimacsBlanksCard : Claim7 := { stood := { row := dimacsBlanksRow, standIns := [], harness := (true, "a052c562f160de86135ef57d15254d6e8aac31f18f9e4d444d10def437c2260d"), looks := true }, kinds := [], alts := [], laidByText := true, laidKinds := [.data, .data, .data, .handle, .sentinel, .sentinel, .sentinel, .sentinel, .sentinel, .sentinel, .sentinel, .sentinel], laidTests := true, laidLooks := .later }
def DimacsBlanksCardSaid : Prop := Claim7.holds Tryd.pinned (.plain (OpenSpec.ofChange dimacsBlanksSpec)) dimacsBlanksCard

/-- THE SECOND FORM's CARD OF 'skolemlaw4.DimacsReads'. -/
def dimacsReadsUptoCard : Claim7 := { stood := { row := dimacsReadsUptoRow, standIns := [], harness := (true, "a052c562f160de86135ef57d15254d6e8aac31f18f9e4d444d10def437c2260d"), looks := true }, kinds := [], alts := [], laidByText := true, laidKinds := [.handle, .sentinel, .sentinel, .sentinel, .sentinel, .sentinel, .sentinel, .sentinel, .sentinel], laidTests := true, laidLooks := .later }
def DimacsReadsUptoCardSaid : Prop := Claim7.holds Tryd.pinned (.plain (OpenSpec.upto dimacsReadsSpec)) dimacsReadsUptoCard

/-- THE SECOND FORM's CARD OF 'skolemlaw4.DimacsBytes'. -/
def dimacsBytesUptoCard : Claim7 := { stood := { row := dimacsBytesUptoRow, standIns := [], harness := (true, "a052c562f160de86135ef57d15254d6e8aac31f18f9e4d444d10def437c2260d"), looks := true }, kinds := [], alts := [], laidByText := true, laidKinds := [.data, .data, .data, .handle, .sentinel, .sentinel, .sentinel, .sentinel, .sentinel, .sentinel, .sentinel, .sentinel], laidTests := true, laidLooks := .later }
def DimacsBytesUptoCardSaid : Prop := Claim7.holds Tryd.pinned (.plain (OpenSpec.upto dimacsBytesSpec)) dimacsBytesUptoCard

/-- THE SECOND FORM's CARD OF 'skolemlaw4.DimacsBlanks'. -/
def dimacsBlanksUptoCard : Claim7 := { stood := { row := dimacsBlanksUptoRow, standIns := [], harness := (true, "a052c562f160de86135ef57d15254d6e8aac31f18f9e4d444d10def437c2260d"), looks := true }, kinds := [], alts := [], laidByText := true, laidKinds := [.data, .data, .data, .handle, .sentinel, .sentinel, .sentinel, .sentinel, .sentinel, .sentinel, .sentinel, .sentinel], laidTests := true, laidLooks := .later }
def DimacsBlanksUptoCardSaid : Prop := Claim7.holds Tryd.pinned (.plain (OpenSpec.upto dimacsBlanksSpec)) dimacsBlanksUptoCard
end Rows
end Go.Proofs.YteihaanpllmieaaDoor
