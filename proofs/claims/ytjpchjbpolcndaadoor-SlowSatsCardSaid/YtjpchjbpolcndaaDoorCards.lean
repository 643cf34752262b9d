/-
  DERIVED. GIVEN WITH THE SEED: THE CARDS: each row of YtjpchjbpolcndaaDoorRows.lean that lists a variable, with what it lists TIED to the program's text (the seventh form; the later family's looks); each row that meets fmt, with fmt's text TOLD by the authors' own Lean function (tested against real Go, not proved from fmt's source: count such statements apart). THE CARD IS WHAT COUNTS. Prove the row's statement (the work); the ties are given (YtjpchjbpolcndaaDoorTie.lean); close each card by the builder's one call (the guide's Derived/Test/ToyasCard.lean, 'card_holds'). Laid BY PROGRAM, IN A SANDBOX (cutbox-door.mjs). By AI agents, Wed Nov 11 2026. No macro, syntax, notation, axiom, sorry.
-/
import Derived.Test.YtjpchjbpolcndaaDoorRows
import GoSem.ClaimSeven
namespace Go.Proofs.YtjpchjbpolcndaaDoor
namespace Rows

/-- THE TIED CARD OF 'skolemlaw7.SlowSays'. -/
def slowSaysCard : Claim7 := { stood := { row := slowSaysRow, standIns := [], harness := (true, "9a8651d4d0d3e59d47b04c93606320b38ee7e2befcfd0e0184d6f5f39da6261a"), looks := true }, kinds := [], alts := [], laidByText := true, laidKinds := [.sentinel, .sentinel], laidTests := true, laidLooks := .later }
def SlowSaysCardSaid : Prop := Claim7.holds Tryd.pinned (.plain (OpenSpec.ofChange slowSaysSpec)) slowSaysCard

/-- THE TIED CARD OF 'skolemlaw7.SlowTurns'. -/
def slowTurnsCard : Claim7 := { stood := { row := slowTurnsRow, standIns := [], harness := (true, "9a8651d4d0d3e59d47b04c93606320b38ee7e2befcfd0e0184d6f5f39da6261a"), looks := true }, kinds := [], alts := [], laidByText := true, laidKinds := [.sentinel, .sentinel], laidTests := true, laidLooks := .later }
def SlowTurnsCardSaid : Prop := Claim7.holds Tryd.pinned (.plain (OpenSpec.ofChange slowTurnsSpec)) slowTurnsCard

/-- THE TIED CARD OF 'skolemlaw7.SlowLimits'. -/
def slowLimitsCard : Claim7 := { stood := { row := slowLimitsRow, standIns := [], harness := (true, "9a8651d4d0d3e59d47b04c93606320b38ee7e2befcfd0e0184d6f5f39da6261a"), looks := true }, kinds := [], alts := [], laidByText := true, laidKinds := [.sentinel, .sentinel, .sentinel, .sentinel, .sentinel, .sentinel, .sentinel], laidTests := true, laidLooks := .later }
def SlowLimitsCardSaid : Prop := Claim7.holds Tryd.pinned (.plain (OpenSpec.ofChange slowLimitsSpec)) slowLimitsCard

/-- THE TIED CARD OF 'skolemlaw7.SlowSats'. -/
def slowSatsCard : Claim7 := { stood := { row := slowSatsRow, standIns := [], harness := (true, "9a8651d4d0d3e59d47b04c93606320b38ee7e2befcfd0e0184d6f5f39da6261a"), looks := true }, kinds := [], alts := [], laidByText := true, laidKinds := [.sentinel, .sentinel], laidTests := true, laidLooks := .later }
def SlowSatsCardSaid : Prop := Claim7.holds Tryd.pinned (.plain (OpenSpec.ofChange slowSatsSpec)) slowSatsCard

/-- THE TIED CARD OF 'skolemlaw6.PrefixSays'. -/
def prefixSaysCard : Claim7 := { stood := { row := prefixSaysRow, standIns := [], harness := (true, "9a8651d4d0d3e59d47b04c93606320b38ee7e2befcfd0e0184d6f5f39da6261a"), looks := true }, kinds := [], alts := [], laidByText := true, laidKinds := [.sentinel, .sentinel, .sentinel, .sentinel, .sentinel, .sentinel, .sentinel], laidTests := true, laidLooks := .later }
def PrefixSaysCardSaid : Prop := Claim7.holds Tryd.pinned (.plain (OpenSpec.ofChange prefixSaysSpec)) prefixSaysCard

/-- THE TIED CARD OF 'skolemlaw6.PrefixMatrix'. -/
def prefixMatrixCard : Claim7 := { stood := { row := prefixMatrixRow, standIns := [], harness := (true, "9a8651d4d0d3e59d47b04c93606320b38ee7e2befcfd0e0184d6f5f39da6261a"), looks := true }, kinds := [], alts := [], laidByText := true, laidKinds := [.sentinel, .sentinel, .sentinel], laidTests := true, laidLooks := .later }
def PrefixMatrixCardSaid : Prop := Claim7.holds Tryd.pinned (.plain (OpenSpec.ofChange prefixMatrixSpec)) prefixMatrixCard

/-- THE TIED CARD OF 'skolemlaw6.PrefixBlocks'. -/
def prefixBlocksCard : Claim7 := { stood := { row := prefixBlocksRow, standIns := [], harness := (true, "9a8651d4d0d3e59d47b04c93606320b38ee7e2befcfd0e0184d6f5f39da6261a"), looks := true }, kinds := [], alts := [], laidByText := true, laidKinds := [.sentinel, .sentinel, .sentinel, .sentinel, .sentinel, .sentinel, .sentinel], laidTests := true, laidLooks := .later }
def PrefixBlocksCardSaid : Prop := Claim7.holds Tryd.pinned (.plain (OpenSpec.ofChange prefixBlocksSpec)) prefixBlocksCard

/-- THE SECOND FORM's CARD OF 'skolemlaw7.SlowSays'. -/
def slowSaysUptoCard : Claim7 := { stood := { row := slowSaysUptoRow, standIns := [], harness := (true, "9a8651d4d0d3e59d47b04c93606320b38ee7e2befcfd0e0184d6f5f39da6261a"), looks := true }, kinds := [], alts := [], laidByText := true, laidKinds := [.sentinel, .sentinel], laidTests := true, laidLooks := .later }
def SlowSaysUptoCardSaid : Prop := Claim7.holds Tryd.pinned (.plain (OpenSpec.upto slowSaysSpec)) slowSaysUptoCard

/-- THE SECOND FORM's CARD OF 'skolemlaw7.SlowTurns'. -/
def slowTurnsUptoCard : Claim7 := { stood := { row := slowTurnsUptoRow, standIns := [], harness := (true, "9a8651d4d0d3e59d47b04c93606320b38ee7e2befcfd0e0184d6f5f39da6261a"), looks := true }, kinds := [], alts := [], laidByText := true, laidKinds := [.sentinel, .sentinel], laidTests := true, laidLooks := .later }
def SlowTurnsUptoCardSaid : Prop := Claim7.holds Tryd.pinned (.plain (OpenSpec.upto slowTurnsSpec)) slowTurnsUptoCard

/-- THE SECOND FORM's CARD OF 'skolemlaw7.SlowLimits'. -/
def slowLimitsUptoCard : Claim7 := { stood := { row := slowLimitsUptoRow, standIns := [], harness := (true, "9a8651d4d0d3e59d47b04c93606320b38ee7e2befcfd0e0184d6f5f39da6261a"), looks := true }, kinds := [], alts := [], laidByText := true, laidKinds := [.sentinel, .sentinel, .sentinel, .sentinel, .sentinel, .sentinel, .sentinel], laidTests := true, laidLooks := .later }
def SlowLimitsUptoCardSaid : Prop := Claim7.holds Tryd.pinned (.plain (OpenSpec.upto slowLimitsSpec)) slowLimitsUptoCard

/-- THE SECOND FORM's CARD OF 'skolemlaw7.SlowSats'. -/
def slowSatsUptoCard : Claim7 := { stood := { row := slowSatsUptoRow, standIns := [], harness := (true, "9a8651d4d0d3e59d47b04c93606320b38ee7e2befcfd0e0184d6f5f39da6261a"), looks := true }, kinds := [], alts := [], laidByText := true, laidKinds := [.sentinel, .sentinel], laidTests := true, laidLooks := .later }
def SlowSatsUptoCardSaid : Prop := Claim7.holds Tryd.pinned (.plain (OpenSpec.upto slowSatsSpec)) slowSatsUptoCard

/-- THE SECOND FORM's CARD OF 'skolemlaw6.PrefixSays'. -/
def prefixSaysUptoCard : Claim7 := { stood := { row := prefixSaysUptoRow, standIns := [], harness := (true, "9a8651d4d0d3e59d47b04c93606320b38ee7e2befcfd0e0184d6f5f39da6261a"), looks := true }, kinds := [], alts := [], laidByText := true, laidKinds := [.sentinel, .sentinel, .sentinel, .sentinel, .sentinel, .sentinel, .sentinel], laidTests := true, laidLooks := .later }
def PrefixSaysUptoCardSaid : Prop := Claim7.holds Tryd.pinned (.plain (OpenSpec.upto prefixSaysSpec)) prefixSaysUptoCard

/-- THE SECOND FORM's CARD OF 'skolemlaw6.PrefixMatrix'. -/
def prefixMatrixUptoCard : Claim7 := { stood := { row := prefixMatrixUptoRow, standIns := [], harness := (true, "9a8651d4d0d3e59d47b04c93606320b38ee7e2befcfd0e0184d6f5f39da6261a"), looks := true }, kinds := [], alts := [], laidByText := true, laidKinds := [.sentinel, .sentinel, .sentinel], laidTests := true, laidLooks := .later }
def PrefixMatrixUptoCardSaid : Prop := Claim7.holds Tryd.pinned (.plain (OpenSpec.upto prefixMatrixSpec)) prefixMatrixUptoCard

/-- THE SECOND FORM's CARD OF 'skolemlaw6.PrefixBlocks'. -/
def prefixBlocksUptoCard : Claim7 := { stood := { row := prefixBlocksUptoRow, standIns := [], harness := (true, "9a8651d4d0d3e59d47b04c93606320b38ee7e2befcfd0e0184d6f5f39da6261a"), looks := true }, kinds := [], alts := [], laidByText := true, laidKinds := [.sentinel, .sentinel, .sentinel, .sentinel, .sentinel, .sentinel, .sentinel], laidTests := true, laidLooks := .later }
def PrefixBlocksUptoCardSaid : Prop := Claim7.holds Tryd.pinned (.plain (OpenSpec.upto prefixBlocksSpec)) prefixBlocksUptoCard
end Rows
end Go.Proofs.YtjpchjbpolcndaaDoor
