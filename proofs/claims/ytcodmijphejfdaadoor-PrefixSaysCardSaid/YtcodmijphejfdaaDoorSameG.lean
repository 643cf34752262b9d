/- Contracts of skolemref.SameBytes and skolemref.SameBools. Conditions: the slices read as the lists named ('RowG'). -/
import Derived.Test.YtcodmijphejfdaaDoorSmall
import Derived.Deep.QuietTactic
import Derived.BigQuiet
import Derived.RegionTactic
import Derived.WalkSmall
import Derived.Deep.Draws
namespace Go.Proofs.YtcodmijphejfdaaDoor
open Go.RowKit

theorem below_drawsG {w w' : World} (h : ∃ n, w' = w.drewN n) : Below w.heap.size w w' := by
  obtain ⟨n, rfl⟩ := h
  exact below_drewN (Below.refl _ _) n
end Go.Proofs.YtcodmijphejfdaaDoor
