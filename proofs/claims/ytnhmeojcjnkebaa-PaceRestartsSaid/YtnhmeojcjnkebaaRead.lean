/- Contracts of the helpers that only read slices of ints: skolemref.SameInts, skolemref.Has, skolemmake.Near. Conditions: the slices read as the lists named ('Row'). -/
import Derived.Test.YtnhmeojcjnkebaaSmall
import Derived.Deep.QuietTactic
import Derived.BigQuiet
import Derived.RegionTactic
import Derived.WalkSmall
import Derived.Deep.Draws
namespace Go.Proofs.Ytnhmeojcjnkebaa
open Go.RowKit

theorem below_draws {w w' : World} (h : ∃ n, w' = w.drewN n) : Below w.heap.size w w' := by
  obtain ⟨n, rfl⟩ := h
  exact below_drewN (Below.refl _ _) n

theorem getD_ext {xs ys : List Int} (h : xs.length = ys.length) (k : ∀ j, j < xs.length → xs.getD j 0 = ys.getD j 0) : xs = ys := by
  apply List.ext_getElem h
  intro i h1 h2
  have := k i h1
  simpa [List.getD, h1, h2] using this

end Go.Proofs.Ytnhmeojcjnkebaa
