/- Contracts of word.Bits and skolemref1.Bits: both are bitsL. Conditions: the string's bytes are bytes, and not too many. -/
import Derived.Test.YtfkodpglgeghlaaDoorKind
import Derived.Test.YtfkodpglgeghlaaDoorStr
import Derived.Test.YtfkodpglgeghlaaDoorGen
import Derived.Deep.Light
namespace Go.Proofs.YtfkodpglgeghlaaDoor
open Go.RowKit

theorem infoBl : (Tryd.prog.info? 4).map (fun i => (i.zero, i.size, i.bytes)) = some (some (.bool false), 1, 1) := by kernel_rfl
/-- What the bits of a text are. -/
def bitsL (xs : List Int) : List Bool := if xs.all bitB then xs.map (fun x => x == 49) else []
theorem takeSnocI (xs : List Int) (k : Nat) (h : k < xs.length) : xs.take (k + 1) = xs.take k ++ [xs.getD k 0] := by
  rw [List.take_succ_eq_append_getElem h]; simp [List.getD, h]
theorem all_no {xs : List Int} {p : Int → Bool} (k : Nat) (hk : k < xs.length) (h : p (xs.getD k 0) = false) : xs.all p = false := by
  rw [List.all_eq_false]
  exact ⟨xs[k], List.getElem_mem hk, by simpa [List.getD, hk] using h⟩
theorem all_yes {xs : List Int} {p : Int → Bool} (h : ∀ j, j < xs.length → p (xs.getD j 0) = true) : xs.all p = true := by
  rw [List.all_eq_true]
  intro x hx
  obtain ⟨j, hj, rfl⟩ := List.getElem_of_mem hx
  simpa [List.getD, hj] using h j hj
theorem getD_extG {α : Type} {d : α} {xs ys : List α} (h : xs.length = ys.length) (k : ∀ j, j < xs.length → xs.getD j d = ys.getD j d) : xs = ys := by
  apply List.ext_getElem h
  intro i h1 h2
  have := k i h1
  simpa [List.getD, h1, h2] using this
def BitsPost (w : World) (xs : List Int) (e : Ending) (w' : World) : Prop :=
  ∃ v, e = .returned (.tuple #[v, .bool (xs.all bitB)]) ∧ RowG Value.bool false w' v (bitsL xs) ∧ Below w.heap.size w w'

end Go.Proofs.YtfkodpglgeghlaaDoor
