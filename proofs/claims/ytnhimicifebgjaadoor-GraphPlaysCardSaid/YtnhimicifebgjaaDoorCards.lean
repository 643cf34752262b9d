/-
  DERIVED. GIVEN WITH THE SEED: THE CARDS: each row of YtnhimicifebgjaaDoorRows.lean that lists a variable, with what it lists TIED to the program's text (the seventh form; the later family's looks); each row that meets fmt, with fmt's text TOLD by the authors' own Lean function (tested against real Go, not proved from fmt's source: count such statements apart). THE CARD IS WHAT COUNTS. Prove the row's statement (the work); the ties are given (YtnhimicifebgjaaDoorTie.lean); close each card by the builder's one call (the guide's Derived/Test/ToyasCard.lean, 'card_holds'). Laid BY PROGRAM, IN A SANDBOX (cutbox-door.mjs). By AI agents, Wed Nov 11 2026. No macro, syntax, notation, axiom, sorry.
-/
import Derived.Test.YtnhimicifebgjaaDoorRows
import GoSem.ClaimSeven
namespace Go.Proofs.YtnhimicifebgjaaDoor
namespace Rows

/-- THE TIED CARD OF 'skolemlaw8.GraphPlays'. -/
def graphPlaysCard : Claim7 := { stood := { row := graphPlaysRow, standIns := [], harness := (true, "b5c5191eeb629a2e56304e8b56bb73026e5bba7f26be5b4017bb2f7acbc1e375"), looks := true }, kinds := [], alts := [], laidByText := true, laidKinds := [.sentinel, .sentinel, .sentinel, .sentinel, .sentinel, .sentinel, .sentinel], laidTests := true, laidLooks := .later }
def GraphPlaysCardSaid : Prop := Claim7.holds Tryd.pinned (.plain (OpenSpec.ofChange graphPlaysSpec)) graphPlaysCard

/-- THE TIED CARD OF 'skolemlaw8.GraphBuilds'. -/
def graphBuildsCard : Claim7 := { stood := { row := graphBuildsRow, standIns := [], harness := (true, "b5c5191eeb629a2e56304e8b56bb73026e5bba7f26be5b4017bb2f7acbc1e375"), looks := true }, kinds := [], alts := [], laidByText := true, laidKinds := [.sentinel, .sentinel, .sentinel, .sentinel, .sentinel, .sentinel, .sentinel], laidTests := true, laidLooks := .later }
def GraphBuildsCardSaid : Prop := Claim7.holds Tryd.pinned (.plain (OpenSpec.ofChange graphBuildsSpec)) graphBuildsCard

/-- THE TIED CARD OF 'skolemlaw8.GraphFolds'. -/
def graphFoldsCard : Claim7 := { stood := { row := graphFoldsRow, standIns := [], harness := (true, "b5c5191eeb629a2e56304e8b56bb73026e5bba7f26be5b4017bb2f7acbc1e375"), looks := true }, kinds := [], alts := [], laidByText := true, laidKinds := [.sentinel, .sentinel], laidTests := true, laidLooks := .later }
def GraphFoldsCardSaid : Prop := Claim7.holds Tryd.pinned (.plain (OpenSpec.ofChange graphFoldsSpec)) graphFoldsCard

/-- THE TIED CARD OF 'skolemlaw8.GraphWorth'. -/
def graphWorthCard : Claim7 := { stood := { row := graphWorthRow, standIns := [], harness := (true, "b5c5191eeb629a2e56304e8b56bb73026e5bba7f26be5b4017bb2f7acbc1e375"), looks := true }, kinds := [], alts := [], laidByText := true, laidKinds := [.sentinel, .sentinel], laidTests := true, laidLooks := .later }
def GraphWorthCardSaid : Prop := Claim7.holds Tryd.pinned (.plain (OpenSpec.ofChange graphWorthSpec)) graphWorthCard

/-- THE TIED CARD OF 'skolemlaw8.GraphErrs'. -/
def graphErrsCard : Claim7 := { stood := { row := graphErrsRow, standIns := [], harness := (true, "b5c5191eeb629a2e56304e8b56bb73026e5bba7f26be5b4017bb2f7acbc1e375"), looks := true }, kinds := [], alts := [], laidByText := true, laidKinds := [.sentinel, .sentinel, .sentinel, .sentinel, .sentinel, .sentinel, .sentinel], laidTests := true, laidLooks := .later }
def GraphErrsCardSaid : Prop := Claim7.holds Tryd.pinned (.plain (OpenSpec.ofChange graphErrsSpec)) graphErrsCard

/-- THE TIED CARD OF 'skolemlaw6.PrefixSays'. -/
def prefixSaysCard : Claim7 := { stood := { row := prefixSaysRow, standIns := [], harness := (true, "b5c5191eeb629a2e56304e8b56bb73026e5bba7f26be5b4017bb2f7acbc1e375"), looks := true }, kinds := [], alts := [], laidByText := true, laidKinds := [.sentinel, .sentinel, .sentinel, .sentinel, .sentinel, .sentinel, .sentinel], laidTests := true, laidLooks := .later }
def PrefixSaysCardSaid : Prop := Claim7.holds Tryd.pinned (.plain (OpenSpec.ofChange prefixSaysSpec)) prefixSaysCard

/-- THE TIED CARD OF 'skolemlaw6.PrefixBlocks'. -/
def prefixBlocksCard : Claim7 := { stood := { row := prefixBlocksRow, standIns := [], harness := (true, "b5c5191eeb629a2e56304e8b56bb73026e5bba7f26be5b4017bb2f7acbc1e375"), looks := true }, kinds := [], alts := [], laidByText := true, laidKinds := [.sentinel, .sentinel, .sentinel, .sentinel, .sentinel, .sentinel, .sentinel], laidTests := true, laidLooks := .later }
def PrefixBlocksCardSaid : Prop := Claim7.holds Tryd.pinned (.plain (OpenSpec.ofChange prefixBlocksSpec)) prefixBlocksCard

/-- THE TIED CARD OF 'skolemlaw7.SlowTurns'. -/
def slowTurnsCard : Claim7 := { stood := { row := slowTurnsRow, standIns := [], harness := (true, "b5c5191eeb629a2e56304e8b56bb73026e5bba7f26be5b4017bb2f7acbc1e375"), looks := true }, kinds := [], alts := [], laidByText := true, laidKinds := [.sentinel, .sentinel], laidTests := true, laidLooks := .later }
def SlowTurnsCardSaid : Prop := Claim7.holds Tryd.pinned (.plain (OpenSpec.ofChange slowTurnsSpec)) slowTurnsCard

/-- THE SECOND FORM's CARD OF 'skolemlaw8.GraphPlays'. -/
def graphPlaysUptoCard : Claim7 := { stood := { row := graphPlaysUptoRow, standIns := [], harness := (true, "b5c5191eeb629a2e56304e8b56bb73026e5bba7f26be5b4017bb2f7acbc1e375"), looks := true }, kinds := [], alts := [], laidByText := true, laidKinds := [.sentinel, .sentinel, .sentinel, .sentinel, .sentinel, .sentinel, .sentinel], laidTests := true, laidLooks := .later }
def GraphPlaysUptoCardSaid : Prop := Claim7.holds Tryd.pinned (.plain (OpenSpec.upto graphPlaysSpec)) graphPlaysUptoCard

/-- THE SECOND FORM's CARD OF 'skolemlaw8.GraphBuilds'. -/
def graphBuildsUptoCard : Claim7 := { stood := { row := graphBuildsUptoRow, standIns := [], harness := (true, "b5c5191eeb629a2e56304e8b56bb73026e5bba7f26be5b4017bb2f7acbc1e375"), looks := true }, kinds := [], alts := [], laidByText := true, laidKinds := [.sentinel, .sentinel, .sentinel, .sentinel, .sentinel, .sentinel, .sentinel], laidTests := true, laidLooks := .later }
def GraphBuildsUptoCardSaid : Prop := Claim7.holds Tryd.pinned (.plain (OpenSpec.upto graphBuildsSpec)) graphBuildsUptoCard

/-- THE SECOND FORM's CARD OF 'skolemlaw8.GraphFolds'. -/
def graphFoldsUptoCard : Claim7 := { stood := { row := graphFoldsUptoRow, standIns := [], harness := (true, "b5c5191eeb629a2e56304e8b56bb73026e5bba7f26be5b4017bb2f7acbc1e375"), looks := true }, kinds := [], alts := [], laidByText := true, laidKinds := [.sentinel, .sentinel], laidTests := true, laidLooks := .later }
def GraphFoldsUptoCardSaid : Prop := Claim7.holds Tryd.pinned (.plain (OpenSpec.upto graphFoldsSpec)) graphFoldsUptoCard

/-- THE SECOND FORM's CARD OF 'skolemlaw8.GraphWorth'. -/
def graphWorthUptoCard : Claim7 := { stood := { row := graphWorthUptoRow, standIns := [], harness := (true, "b5c5191eeb629a2e56304e8b56bb73026e5bba7f26be5b4017bb2f7acbc1e375"), looks := true }, kinds := [], alts := [], laidByText := true, laidKinds := [.sentinel, .sentinel], laidTests := true, laidLooks := .later }
def GraphWorthUptoCardSaid : Prop := Claim7.holds Tryd.pinned (.plain (OpenSpec.upto graphWorthSpec)) graphWorthUptoCard

/-- THE SECOND FORM's CARD OF 'skolemlaw8.GraphErrs'. -/
def graphErrsUptoCard : Claim7 := { stood := { row := graphErrsUptoRow, standIns := [], harness := (true, "b5c5191eeb629a2e56304e8b56bb73026e5bba7f26be5b4017bb2f7acbc1e375"), looks := true }, kinds := [], alts := [], laidByText := true, laidKinds := [.sentinel, .sentinel, .sentinel, .sentinel, .sentinel, .sentinel, .sentinel], laidTests := true, laidLooks := .later }
def GraphErrsUptoCardSaid : Prop := Claim7.holds Tryd.pinned (.plain (OpenSpec.upto graphErrsSpec)) graphErrsUptoCard

/-- THE SECOND FORM's CARD OF 'skolemlaw6.PrefixSays'. -/
def prefixSaysUptoCard : Claim7 := { stood := { row := prefixSaysUptoRow, standIns := [], harness := (true, "b5c5191eeb629a2e56304e8b56bb73026e5bba7f26be5b4017bb2f7acbc1e375"), looks := true }, kinds := [], alts := [], laidByText := true, laidKinds := [.sentinel, .sentinel, .sentinel, .sentinel, .sentinel, .sentinel, .sentinel], laidTests := true, laidLooks := .later }
def PrefixSaysUptoCardSaid : Prop := Claim7.holds Tryd.pinned (.plain (OpenSpec.upto prefixSaysSpec)) prefixSaysUptoCard

/-- THE SECOND FORM's CARD OF 'skolemlaw6.PrefixBlocks'. -/
def prefixBlocksUptoCard : Claim7 := { stood := { row := prefixBlocksUptoRow, standIns := [], harness := (true, "b5c5191eeb629a2e56304e8b56bb73026e5bba7f26be5b4017bb2f7acbc1e375"), looks := true }, kinds := [], alts := [], laidByText := true, laidKinds := [.sentinel, .sentinel, .sentinel, .sentinel, .sentinel, .sentinel, .sentinel], laidTests := true, laidLooks := .later }
def PrefixBlocksUptoCardSaid : Prop := Claim7.holds Tryd.pinned (.plain (OpenSpec.upto prefixBlocksSpec)) prefixBlocksUptoCard

/-- THE SECOND FORM's CARD OF 'skolemlaw7.SlowTurns'. -/
def slowTurnsUptoCard : Claim7 := { stood := { row := slowTurnsUptoRow, standIns := [], harness := (true, "b5c5191eeb629a2e56304e8b56bb73026e5bba7f26be5b4017bb2f7acbc1e375"), looks := true }, kinds := [], alts := [], laidByText := true, laidKinds := [.sentinel, .sentinel], laidTests := true, laidLooks := .later }
def SlowTurnsUptoCardSaid : Prop := Claim7.holds Tryd.pinned (.plain (OpenSpec.upto slowTurnsSpec)) slowTurnsUptoCard
end Rows
end Go.Proofs.YtnhimicifebgjaaDoor
