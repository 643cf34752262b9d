/- Plain facts: a literal of these variables. Nothing of the program. -/
import Derived.Test.YtmlgpnaikdpifaaPlain
namespace Go.Proofs.Ytmlgpnaikdpifaa

def isF (l vars : Int) : Bool := decide (l ≠ 0) && (decide (l ≤ vars) && decide (-vars ≤ l))
end Go.Proofs.Ytmlgpnaikdpifaa
