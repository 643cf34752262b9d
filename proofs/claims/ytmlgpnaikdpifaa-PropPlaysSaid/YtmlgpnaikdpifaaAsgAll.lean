/- Contracts of assign.Assign.All and assign.Assign.Known. Conditions: the literals lie strictly inside the 64 bits. -/
import Derived.Test.YtmlgpnaikdpifaaClP
import Derived.Test.YtmlgpnaikdpifaaAsgMod
namespace Go.Proofs.Ytmlgpnaikdpifaa
open Go.RowKit

def anyIs (V : List Int) (cs : List (List Int)) (x : Int) : Bool := cs.any fun c => decide ((clauseL V c).1 = x)
/-- What clauses are worth. -/
def allL (V : List Int) (cs : List (List Int)) : Int := if anyIs V cs 2 = true then 2 else if anyIs V cs 0 = true then 0 else 1
theorem anyIs_succ (V : List Int) (cs : List (List Int)) (x : Int) (k : Nat) (h : k < cs.length) : anyIs V (cs.take (k + 1)) x = (anyIs V (cs.take k) x || decide ((clauseL V (cs.getD k [])).1 = x)) := by
  unfold anyIs
  rw [List.take_succ_eq_append_getElem h, List.any_append]; simp [List.getD, h]
theorem anyIs_yes (V : List Int) (cs : List (List Int)) (x : Int) (k : Nat) (h : k < cs.length) (hf : (clauseL V (cs.getD k [])).1 = x) : anyIs V cs x = true := by
  unfold anyIs
  rw [List.any_eq_true]
  exact ⟨cs[k], List.getElem_mem h, by simpa [List.getD, h] using hf⟩

/-- The literal that a value says is true. -/
def known1 (v : Nat) (x : Int) : List Int := if x = 1 then [(v : Int)] else if x = 2 then [-(v : Int)] else []
def knownTo (V : List Int) (k : Nat) : List Int := (List.range k).flatMap fun i => known1 i (V.getD i 0)
def knownL (V : List Int) : List Int := knownTo V V.length
theorem knownTo_succ (V : List Int) (k : Nat) : knownTo V (k + 1) = knownTo V k ++ known1 k (V.getD k 0) := by
  unfold knownTo; rw [List.range_succ, List.flatMap_append]; simp
theorem known1_len (v : Nat) (x : Int) : (known1 v x).length ≤ 1 := by
  unfold known1
  split
  · simp
  · split <;> simp
theorem knownTo_len (V : List Int) : ∀ k, (knownTo V k).length ≤ k
  | 0 => by simp [knownTo]
  | k + 1 => by
    rw [knownTo_succ, List.length_append]
    have := knownTo_len V k
    have := known1_len k (V.getD k 0)
    omega

def KnownPost (w : World) (xs : List Int) (e : Ending) (w' : World) : Prop :=
  ∃ v, e = .returned v ∧ w'.ownsRow w.heap.size 3 1 v xs.length (xs.map (Value.int .i64)) ∧ Below w.heap.size w w'

end Go.Proofs.Ytmlgpnaikdpifaa
