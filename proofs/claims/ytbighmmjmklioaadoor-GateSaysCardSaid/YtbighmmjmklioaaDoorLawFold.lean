/- The law GraphFolds: true for whatever arguments. Conditions: the slice reads as 64-bit ints; the two errors lie as 'Sents2' says. -/
import Derived.Test.YtbighmmjmklioaaDoorGst
import Derived.Deep.RegionHeld3
import Derived.Deep.Light
namespace Go.Proofs.YtbighmmjmklioaaDoor
open Go.RowKit

theorem mod_bd (x n : Int) (h : 0 < n) : -n < x.tmod n ∧ x.tmod n < n := ⟨Int.lt_tmod_of_pos x h, Int.tmod_lt_of_pos x h⟩
theorem mod_nn (x n : Int) (h : 0 < n) : 0 ≤ (x.tmod n + n).tmod n ∧ (x.tmod n + n).tmod n < n := by
  have := mod_bd x n h
  exact ⟨Int.tmod_nonneg _ (by omega), Int.tmod_lt_of_pos _ h⟩
theorem isB_lt (g : Gr) (x : Int) (h0 : 0 ≤ x) (h1 : x < 2 * (g.len : Int) + 2) : g.isB x = true := by
  rw [isB_iff]; omega

end Go.Proofs.YtbighmmjmklioaaDoor
