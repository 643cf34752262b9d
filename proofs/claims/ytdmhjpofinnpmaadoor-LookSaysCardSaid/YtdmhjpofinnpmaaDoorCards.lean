/-
  DERIVED. GIVEN WITH THE SEED: THE CARDS: each row of YtdmhjpofinnpmaaDoorRows.lean that lists a variable, with what it lists TIED to the program's text (the seventh form; the later family's looks); each row that meets fmt, with fmt's text TOLD by the authors' own Lean function (tested against real Go, not proved from fmt's source: count such statements apart). THE CARD IS WHAT COUNTS. Prove the row's statement (the work); the ties are given (YtdmhjpofinnpmaaDoorTie.lean); close each card by the builder's one call (the guide's Derived/Test/ToyasCard.lean, 'card_holds'). Laid BY PROGRAM, IN A SANDBOX (cutbox-door.mjs). By AI agents, Wed Nov 11 2026. No macro, syntax, notation, axiom, sorry.
-/
import Derived.Test.YtdmhjpofinnpmaaDoorRows
import GoSem.ClaimSeven
namespace Go.Proofs.YtdmhjpofinnpmaaDoor
namespace Rows

/-- THE TIED CARD OF 'skolemlaw10.LookSays'. -/
def lookSaysCard : Claim7 := { stood := { row := lookSaysRow, standIns := [], harness := (true, "3069836e61519841edfea161a6489f6eee58e4ec7b316fcc65b0fb5794a2763d"), looks := false }, kinds := [], alts := [], laidByText := true, laidKinds := [.sentinel, .sentinel], laidTests := true, laidLooks := .later }
def LookSaysCardSaid : Prop := Claim7.holds Tryd.pinned (.plain (OpenSpec.ofChange lookSaysSpec)) lookSaysCard

/-- THE TIED CARD OF 'skolemlaw10.LookHangs'. -/
def lookHangsCard : Claim7 := { stood := { row := lookHangsRow, standIns := [], harness := (true, "3069836e61519841edfea161a6489f6eee58e4ec7b316fcc65b0fb5794a2763d"), looks := false }, kinds := [], alts := [], laidByText := true, laidKinds := [.sentinel, .sentinel], laidTests := true, laidLooks := .later }
def LookHangsCardSaid : Prop := Claim7.holds Tryd.pinned (.plain (OpenSpec.ofChange lookHangsSpec)) lookHangsCard

/-- THE TIED CARD OF 'skolemlaw10.LookCopies'. -/
def lookCopiesCard : Claim7 := { stood := { row := lookCopiesRow, standIns := [], harness := (true, "3069836e61519841edfea161a6489f6eee58e4ec7b316fcc65b0fb5794a2763d"), looks := false }, kinds := [], alts := [], laidByText := true, laidKinds := [.sentinel, .sentinel], laidTests := true, laidLooks := .later }
def LookCopiesCardSaid : Prop := Claim7.holds Tryd.pinned (.plain (OpenSpec.ofChange lookCopiesSpec)) lookCopiesCard

/-- THE TIED CARD OF 'skolemlaw10.LookDepths'. -/
def lookDepthsCard : Claim7 := { stood := { row := lookDepthsRow, standIns := [], harness := (true, "3069836e61519841edfea161a6489f6eee58e4ec7b316fcc65b0fb5794a2763d"), looks := false }, kinds := [], alts := [], laidByText := true, laidKinds := [.sentinel, .sentinel], laidTests := true, laidLooks := .later }
def LookDepthsCardSaid : Prop := Claim7.holds Tryd.pinned (.plain (OpenSpec.ofChange lookDepthsSpec)) lookDepthsCard

/-- THE SECOND FORM's CARD OF 'skolemlaw10.LookSays'. -/
def lookSaysUptoCard : Claim7 := { stood := { row := lookSaysUptoRow, standIns := [], harness := (true, "3069836e61519841edfea161a6489f6eee58e4ec7b316fcc65b0fb5794a2763d"), looks := false }, kinds := [], alts := [], laidByText := true, laidKinds := [.sentinel, .sentinel], laidTests := true, laidLooks := .later }
def LookSaysUptoCardSaid : Prop := Claim7.holds Tryd.pinned (.plain (OpenSpec.upto lookSaysSpec)) lookSaysUptoCard

/-- THE SECOND FORM's CARD OF 'skolemlaw10.LookHangs'. -/
def lookHangsUptoCard : Claim7 := { stood := { row := lookHangsUptoRow, standIns := [], harness := (true, "3069836e61519841edfea161a6489f6eee58e4ec7b316fcc65b0fb5794a2763d"), looks := false }, kinds := [], alts := [], laidByText := true, laidKinds := [.sentinel, .sentinel], laidTests := true, laidLooks := .later }
def LookHangsUptoCardSaid : Prop := Claim7.holds Tryd.pinned (.plain (OpenSpec.upto lookHangsSpec)) lookHangsUptoCard

/-- THE SECOND FORM's CARD OF 'skolemlaw10.LookCopies'. -/
def lookCopiesUptoCard : Claim7 := { stood := { row := lookCopiesUptoRow, standIns := [], harness := (true, "3069836e61519841edfea161a6489f6eee58e4ec7b316fcc65b0fb5794a2763d"), looks := false }, kinds := [], alts := [], laidByText := true, laidKinds := [.sentinel, .sentinel], laidTests := true, laidLooks := .later }
def LookCopiesUptoCardSaid : Prop := Claim7.holds Tryd.pinned (.plain (OpenSpec.upto lookCopiesSpec)) lookCopiesUptoCard

/-- THE SECOND FORM's CARD OF 'skolemlaw10.LookDepths'. -/
def lookDepthsUptoCard : Claim7 := { stood := { row := lookDepthsUptoRow, standIns := [], harness := (true, "3069836e61519841edfea161a6489f6eee58e4ec7b316fcc65b0fb5794a2763d"), looks := false }, kinds := [], alts := [], laidByText := true, laidKinds := [.sentinel, .sentinel], laidTests := true, laidLooks := .later }
def LookDepthsUptoCardSaid : Prop := Claim7.holds Tryd.pinned (.plain (OpenSpec.upto lookDepthsSpec)) lookDepthsUptoCard
end Rows
end Go.Proofs.YtdmhjpofinnpmaaDoor
