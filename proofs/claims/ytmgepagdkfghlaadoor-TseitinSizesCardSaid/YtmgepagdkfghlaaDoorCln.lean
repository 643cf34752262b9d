/- Contracts of slices.Clone at slices of pairs and of ints, whatever the slice. Conditions: the slice reads as pairs (ints), and is not too long. -/
import Derived.Test.YtmgepagdkfghlaaDoorPrs
import Derived.Laws.Cover3
namespace Go.Proofs.YtmgepagdkfghlaaDoor
open Go.RowKit

theorem eqN_P (a : Option Addr) (l c : Nat) (w : World) : (binOp .eql 22 (.slice a l c) (.slice none 0 0)).run Tryd.prog w = .ok (.bool a.isNone) w := by
  have h := run_equal_slice_nil (P := Tryd.prog) (w := w) 22 59 a l c Tryd.underlying22
  simp [binOp, h, Result.andThen]
theorem eqN_I (a : Option Addr) (l c : Nat) (w : World) : (binOp .eql 23 (.slice a l c) (.slice none 0 0)).run Tryd.prog w = .ok (.bool a.isNone) w := by
  have h := run_equal_slice_nil (P := Tryd.prog) (w := w) 23 3 a l c Tryd.underlying23
  simp [binOp, h, Result.andThen]
theorem own_empty (w : World) (B : Nat) (E : TypeId) (s : Nat) (hB : B ≤ w.heap.size) : (w.alloc (.cells #[] E)).ownsRow B E s (.slice (some ⟨w.heap.size, 0, none⟩) 0 0) 0 [] :=
  ⟨by simp, .inr ⟨w.heap.size, 0, _, rfl, hB, heap_alloc_new w _, Nat.le_refl _, by unfold maxLen; omega, by simp, by simp⟩⟩

end Go.Proofs.YtmgepagdkfghlaaDoor
