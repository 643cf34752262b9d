/- Plain functions on ints and lists (nothing of the program): a number's literal, a literal's variable, renaming. Holds for all ints and lists; no conditions beyond those typed. -/
import Derived.WalkKit
namespace Go.Proofs.Ytnhmeojcjnkebaa

/-- The literal of a number, of v variables. -/
def litOf (n v : Int) : Int := if n % (2 * v) < v then n % (2 * v) + 1 else v - n % (2 * v) - 1
theorem litOf_bd (n v : Int) (hv : 0 < v) : litOf n v ≠ 0 ∧ -v ≤ litOf n v ∧ litOf n v ≤ v := by
  have h1 := Int.emod_nonneg n (show 2 * v ≠ 0 by omega)
  have h2 := Int.emod_lt_of_pos n (show 0 < 2 * v by omega)
  unfold litOf; split <;> omega
/-- A literal without its sign. -/
def absI (l : Int) : Int := if l < 0 then -l else l
theorem absI_pos (l : Int) : 0 ≤ absI l := by unfold absI; split <;> omega
/-- One literal renamed. -/
def ren1 (by' : List Int) (l : Int) : Int := if l < 0 then -(by'.getD (absI l).toNat 0) else by'.getD (absI l).toNat 0
/-- It has a variable that has a name. -/
def renOk (by' : List Int) (l : Int) : Bool := decide (1 ≤ absI l) && (decide (absI l ≤ by'.length - 1) && !(by'.getD (absI l).toNat 0 == 0))
end Go.Proofs.Ytnhmeojcjnkebaa
