/-
  DERIVED. GIVEN WITH THE SEED: THE CARDS: each row of YtkjaepcdhclmfaaDoorRows.lean that lists a variable, with what it lists TIED to the program's text (the seventh form; the later family's looks); each row that meets fmt, with fmt's text TOLD by the authors' own Lean function (tested against real Go, not proved from fmt's source: count such statements apart). THE CARD IS WHAT COUNTS. Prove the row's statement (the work); the ties are given (YtkjaepcdhclmfaaDoorTie.lean); close each card by the builder's one call (the guide's Derived/Test/ToyasCard.lean, 'card_holds'). Laid BY PROGRAM, IN A SANDBOX (cutbox-door.mjs). By AI agents, Wed Nov 11 2026. No macro, syntax, notation, axiom, sorry.
-/
import Derived.Test.YtkjaepcdhclmfaaDoorRows
import GoSem.ClaimSeven
namespace Go.Proofs.YtkjaepcdhclmfaaDoor
namespace Rows

/-- THE TIED CARD OF 'skolemlaw15.PropIds'. -/
def propIdsCard : Claim7 := { stood := { row := propIdsRow, standIns := [], harness := (true, "f4e775162ed4beb3c34eed4781d80736d6f41f9ff233ee1efaafdae43f1caacf"), looks := false }, kinds := [], alts := [], laidByText := true, laidKinds := [.data, .data, .data], laidTests := true, laidLooks := .later }
def PropIdsCardSaid : Prop := Claim7.holds Tryd.pinned (.plain (OpenSpec.ofChange propIdsSpec)) propIdsCard

/-- THE SECOND FORM's CARD OF 'skolemlaw15.PropIds'. -/
def propIdsUptoCard : Claim7 := { stood := { row := propIdsUptoRow, standIns := [], harness := (true, "f4e775162ed4beb3c34eed4781d80736d6f41f9ff233ee1efaafdae43f1caacf"), looks := false }, kinds := [], alts := [], laidByText := true, laidKinds := [.data, .data, .data], laidTests := true, laidLooks := .later }
def PropIdsUptoCardSaid : Prop := Claim7.holds Tryd.pinned (.plain (OpenSpec.upto propIdsSpec)) propIdsUptoCard
end Rows
end Go.Proofs.YtkjaepcdhclmfaaDoor
