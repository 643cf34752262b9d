/- Contracts of the small methods of skolemref1.Assign: Value, Set, over values in memory. Conditions: the literals lie strictly inside the 64 bits. -/
import Derived.Test.YtkjaepcdhclmfaaDoorAsgProg
namespace Go.Proofs.YtkjaepcdhclmfaaDoor
open Go.RowKit

theorem refIsB (V : List Int) (l : Int) : isB ((V.length : Int) - 1) l = rightB V l := isB_right V l

theorem Asg.drewN {w : World} {B : Nat} {v : Value} {p q : Nat} {V : List Int} (h : Asg w B v p q V) (n : Nat) : Asg (w.drewN n) B v p q V := h.keep (below_draws ⟨n, rfl⟩)

end Go.Proofs.YtkjaepcdhclmfaaDoor
