/- Contracts of graph.renamed and the document's as: 'renL'. Conditions: the row reads as literals; the literal's node is within it. -/
import Derived.Test.YtdmhjpofinnpmaaDoorGrB
import Derived.Test.YtdmhjpofinnpmaaDoorOwn
import Derived.Test.YtdmhjpofinnpmaaDoorOpenRows
namespace Go.Proofs.YtdmhjpofinnpmaaDoor
open Go.RowKit

/-- A row's entries are literals, not too large. -/
def LitsOk (bs : List Int) : Prop := ∀ j, 0 ≤ bs.getD j 0 ∧ bs.getD j 0 < 4611686018427387904
theorem litsOk_of {g : Gr} {bs : List Int} (hl : g.len ≤ 8000) (h : ∀ j, g.isB (bs.getD j 0) = true) : LitsOk bs := fun j => by
  have := (isB_iff _ _).1 (h j)
  omega
theorem renL_val (bs : List Int) (l : Int) (h0 : 0 ≤ l) (h1 : l < 4611686018427387904) (hb : LitsOk bs) : bits .xor .i64 (bs.getD (l / 2).toNat 0) (bits .and .i64 l 1) = renL bs l := by
  rw [and_oneI l h0 h1]
  unfold renL
  exact xor_bit _ l (hb _).1 (hb _).2 (by omega)

end Go.Proofs.YtdmhjpofinnpmaaDoor
