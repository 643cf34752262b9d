/- Contracts of the program's and the document's Circuit. Conditions: the graph lies in memory as 'GrM' ('RgM') says; the outputs read as ints, not too many. -/
import Derived.Test.YtmgepagdkfghlaaDoorCln
import Derived.Test.YtmgepagdkfghlaaDoorIntsR
import Derived.Test.YtmgepagdkfghlaaDoorRgC
import Derived.Deep.RegionHeld3
import Derived.Laws.ResultCell
import Derived.WalkLawsBesides
namespace Go.Proofs.YtmgepagdkfghlaaDoor
open Go.RowKit

/-- A circuit as a value. -/
def circV (n : Int) (u v : Value) : Value := .agg #[.int .i64 n, u, v]
/-- What a Circuit call answers: its rows lie in memory of the call's own. -/
def CirPost (w : World) (n : Int) (ps : List (Int × Int)) (os : List Int) (e : Ending) (w' : World) : Prop :=
  (∃ u v, e = .returned (circV n u v) ∧ w'.ownsRow (w.heap.size + 1) 59 2 u ps.length (ps.flatMap pcells) ∧ w'.ownsRow (w.heap.size + 1) 3 1 v os.length (os.map (Value.int .i64))) ∧ Below w.heap.size w w'
theorem cir_set {w W : World} {E : TypeId} {s n : Nat} {u : Value} {xs : List Value} (h : W.ownsRow (w.heap.size + 1) E s u n xs) (a b c : Value) : (((W.setCell ⟨w.heap.size, 0, none⟩ a).setCell ⟨w.heap.size, 1, none⟩ b).setCell ⟨w.heap.size, 2, none⟩ c).ownsRow (w.heap.size + 1) E s u n xs :=
  ownsRow_setCell_below (ownsRow_setCell_below (ownsRow_setCell_below h (a := ⟨w.heap.size, 0, none⟩) (Nat.lt_succ_self _) _) (a := ⟨w.heap.size, 1, none⟩) (Nat.lt_succ_self _) _) (a := ⟨w.heap.size, 2, none⟩) (Nat.lt_succ_self _) _

end Go.Proofs.YtmgepagdkfghlaaDoor
