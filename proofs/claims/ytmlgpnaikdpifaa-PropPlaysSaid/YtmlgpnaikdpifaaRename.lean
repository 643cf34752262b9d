/- The contract of lits.Rename: every literal by the new name of its variable, or false where one has none. Conditions: the literals and the names are 64-bit ints above the least, the list is short. -/
import Derived.Test.YtmlgpnaikdpifaaRead
import Derived.Test.YtmlgpnaikdpifaaOwn
namespace Go.Proofs.Ytmlgpnaikdpifaa
open Go.RowKit

/-- All ints of the list lie strictly inside the 64 bits. -/
def InW (xs : List Int) : Prop := ∀ x ∈ xs, -9223372036854775807 ≤ x ∧ x ≤ 9223372036854775807
theorem InW.get {xs : List Int} (h : InW xs) (k : Nat) : -9223372036854775807 ≤ xs.getD k 0 ∧ xs.getD k 0 ≤ 9223372036854775807 := by
  by_cases hk : k < xs.length
  · have := h _ (List.getElem_mem hk); simpa [List.getD, hk] using this
  · simp [List.getD, show xs.length ≤ k by omega]

/-- What Rename leaves. -/
def RenPost (w : World) (xs bs : List Int) (e : Ending) (w' : World) : Prop :=
  ∃ v', e = .returned (.tuple #[v', .bool (xs.all (renOk bs))]) ∧ Below w.heap.size w w' ∧
    (xs.all (renOk bs) = true → w'.ownsRow w.heap.size 3 1 v' xs.length ((xs.map (ren1 bs)).map (Value.int .i64))) ∧ (xs.all (renOk bs) = false → v' = .slice none 0 0)

theorem all_snoc (f : Int → Bool) (xs : List Int) (k : Nat) (h : k < xs.length) : (xs.take (k + 1)).all f = ((xs.take k).all f && f (xs.getD k 0)) := by
  rw [take_snoc xs k h, List.all_append]; simp
theorem all_false (f : Int → Bool) (xs : List Int) (k : Nat) (h : k < xs.length) (hf : f (xs.getD k 0) = false) : xs.all f = false := by
  rw [List.all_eq_false]
  exact ⟨xs[k], List.getElem_mem h, by simpa [List.getD, h] using hf⟩

end Go.Proofs.Ytmlgpnaikdpifaa
