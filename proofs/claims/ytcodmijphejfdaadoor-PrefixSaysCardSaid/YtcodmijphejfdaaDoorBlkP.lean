/- Plain facts: a block is a kind and its variables; which variables may stand there. Nothing of the program. -/
import Derived.Test.YtcodmijphejfdaaDoorPlain
namespace Go.Proofs.YtcodmijphejfdaaDoor

abbrev Blk := Bool × List Int
/-- A variable that may stand in a block, behind those that were met. -/
def okV (vars : Int) (met : List Int) (v : Int) : Bool := decide (1 ≤ v) && (decide (v ≤ vars) && !met.contains v)
end Go.Proofs.YtcodmijphejfdaaDoor
