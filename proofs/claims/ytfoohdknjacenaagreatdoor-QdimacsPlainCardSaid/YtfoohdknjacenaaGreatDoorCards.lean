/-
  DERIVED. GIVEN WITH THE SEED: THE CARDS: each row of YtfoohdknjacenaaGreatDoorRows.lean that lists a variable, with what it lists TIED to the program's text (the seventh form; the later family's looks); each row that meets fmt, with fmt's text TOLD by the authors' own Lean function (tested against real Go, not proved from fmt's source: count such statements apart). THE CARD IS WHAT COUNTS. Prove the row's statement (the work); the ties are given (YtfoohdknjacenaaGreatDoorTie.lean); close each card by the builder's one call (the guide's Derived/Test/ToyasCard.lean, 'card_holds'). Laid BY PROGRAM, IN A SANDBOX (cutbox-door.mjs). By AI agents, Wed Nov 11 2026. No macro, syntax, notation, axiom, sorry.
-/
import Derived.Test.YtfoohdknjacenaaGreatDoorRows
import GoSem.ClaimSeven
namespace Go.Proofs.YtfoohdknjacenaaGreatDoor
namespace Rows

/-- THE TIED CARD OF 'skolemlaw5.QdimacsReads'. -/
def qdimacsReadsCard : Claim7 := { stood := { row := qdimacsReadsRow, standIns := [], harness := (true, "06ae924eef359904aba59b41416f3e8819c18dde0eb627582d0a0cdf1b5fb380"), looks := true }, kinds := [], alts := [], laidByText := true, laidKinds := [.data, .data, .data, .handle, .sentinel, .sentinel, .sentinel, .sentinel, .sentinel, .sentinel, .sentinel, .sentinel], laidTests := true, laidLooks := .later }
def QdimacsReadsCardSaid : Prop := Claim7.holds Tryz.pinned (.plain (OpenSpec.ofChange qdimacsReadsSpec)) qdimacsReadsCard

/-- THE TIED CARD OF 'skolemlaw5.QdimacsChecks'. -/
def qdimacsChecksCard : Claim7 := { stood := { row := qdimacsChecksRow, standIns := [], harness := (true, "06ae924eef359904aba59b41416f3e8819c18dde0eb627582d0a0cdf1b5fb380"), looks := true }, kinds := [], alts := [], laidByText := true, laidKinds := [.data, .data, .data, .handle, .sentinel, .sentinel, .sentinel, .sentinel, .sentinel, .sentinel, .sentinel, .sentinel], laidTests := true, laidLooks := .later }
def QdimacsChecksCardSaid : Prop := Claim7.holds Tryz.pinned (.plain (OpenSpec.ofChange qdimacsChecksSpec)) qdimacsChecksCard

/-- THE TIED CARD OF 'skolemlaw5.QdimacsPlain'. -/
def qdimacsPlainCard : Claim7 := { stood := { row := qdimacsPlainRow, standIns := [], harness := (true, "06ae924eef359904aba59b41416f3e8819c18dde0eb627582d0a0cdf1b5fb380"), looks := true }, kinds := [], alts := [], laidByText := true, laidKinds := [.data, .data, .data, .handle, .sentinel, .sentinel, .sentinel, .sentinel, .sentinel, .sentinel, .sentinel, .sentinel], laidTests := true, laidLooks := .later }
def QdimacsPlainCardSaid : Prop := Claim7.holds Tryz.pinned (.plain (OpenSpec.ofChange qdimacsPlainSpec)) qdimacsPlainCard

/-- THE SECOND FORM's CARD OF 'skolemlaw5.QdimacsReads'. -/
def qdimacsReadsUptoCard : Claim7 := { stood := { row := qdimacsReadsUptoRow, standIns := [], harness := (true, "06ae924eef359904aba59b41416f3e8819c18dde0eb627582d0a0cdf1b5fb380"), looks := true }, kinds := [], alts := [], laidByText := true, laidKinds := [.data, .data, .data, .handle, .sentinel, .sentinel, .sentinel, .sentinel, .sentinel, .sentinel, .sentinel, .sentinel], laidTests := true, laidLooks := .later }
def QdimacsReadsUptoCardSaid : Prop := Claim7.holds Tryz.pinned (.plain (OpenSpec.upto qdimacsReadsSpec)) qdimacsReadsUptoCard

/-- THE SECOND FORM's CARD OF 'skolemlaw5.QdimacsChecks'. -/
def qdimacsChecksUptoCard : Claim7 := { stood := { row := qdimacsChecksUptoRow, standIns := [], harness := (true, "06ae924eef359904aba59b41416f3e8819c18dde0eb627582d0a0cdf1b5fb380"), looks := true }, kinds := [], alts := [], laidByText := true, laidKinds := [.data, .data, .data, .handle, .sentinel, .sentinel, .sentinel, .sentinel, .sentinel, .sentinel, .sentinel, .sentinel], laidTests := true, laidLooks := .later }
def QdimacsChecksUptoCardSaid : Prop := Claim7.holds Tryz.pinned (.plain (OpenSpec.upto qdimacsChecksSpec)) qdimacsChecksUptoCard

/-- THE SECOND FORM's CARD OF 'skolemlaw5.QdimacsPlain'. -/
def qdimacsPlainUptoCard : Claim7 := { stood := { row := qdimacsPlainUptoRow, standIns := [], harness := (true, "06ae924eef359904aba59b41416f3e8819c18dde0eb627582d0a0cdf1b5fb380"), looks := true }, kinds := [], alts := [], laidByText := true, laidKinds := [.data, .data, .data, .handle, .sentinel, .sentinel, .sentinel, .sentinel, .sentinel, .sentinel, .sentinel, .sentinel], laidTests := true, laidLooks := .later }
def QdimacsPlainUptoCardSaid : Prop := Claim7.holds Tryz.pinned (.plain (OpenSpec.upto qdimacsPlainSpec)) qdimacsPlainUptoCard
end Rows
end Go.Proofs.YtfoohdknjacenaaGreatDoor
