/- Plain facts: a literal of these variables. Nothing of the program. -/
import Derived.Test.YtbighmmjmklioaaDoorPlain
namespace Go.Proofs.YtbighmmjmklioaaDoor

def isF (l vars : Int) : Bool := decide (l ≠ 0) && (decide (l ≤ vars) && decide (-vars ≤ l))
end Go.Proofs.YtbighmmjmklioaaDoor
