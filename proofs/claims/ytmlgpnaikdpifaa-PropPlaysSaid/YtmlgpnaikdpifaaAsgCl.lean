/- The contract of assign.Assign.Clause: what a clause is worth and the one literal of it that is not false. Conditions: the literals lie strictly inside the 64 bits. -/
import Derived.Test.YtmlgpnaikdpifaaAsgProg
namespace Go.Proofs.Ytmlgpnaikdpifaa
open Go.RowKit

/-- One literal more. -/
def cstep (V : List Int) (s : Int × Int × Bool) (l : Int) : Int × Int × Bool :=
  if valL V l = 0 then (0, l, s.2.2 || (decide (s.1 = 0) && !decide (l = s.2.1))) else s
def cfold (V : List Int) (c : List Int) : Int × Int × Bool := c.foldl (cstep V) (2, 0, false)
def hasTrue (V : List Int) (c : List Int) : Bool := c.any fun l => decide (valL V l = 1)
def clauseL (V : List Int) (c : List Int) : Int × Int :=
  if hasTrue V c = true then (1, 0) else ((cfold V c).1, if (cfold V c).2.2 = true then 0 else (cfold V c).2.1)
theorem cfold_succ (V c : List Int) (k : Nat) (h : k < c.length) : cfold V (c.take (k + 1)) = cstep V (cfold V (c.take k)) (c.getD k 0) := by
  unfold cfold; rw [take_snoc c k h, List.foldl_append]; rfl
theorem hasTrue_succ (V c : List Int) (k : Nat) (h : k < c.length) : hasTrue V (c.take (k + 1)) = (hasTrue V (c.take k) || decide (valL V (c.getD k 0) = 1)) := by
  unfold hasTrue; rw [take_snoc c k h, List.any_append]; simp
theorem hasTrue_get (V c : List Int) (k : Nat) (h : k < c.length) (hv : valL V (c.getD k 0) = 1) : hasTrue V c = true := by
  unfold hasTrue; rw [List.any_eq_true]
  exact ⟨c[k], List.getElem_mem h, by simpa [List.getD, h] using hv⟩

end Go.Proofs.Ytmlgpnaikdpifaa
