/- The contract of skolemref.Ints: a copy in memory of the call's own. Conditions: the slice reads as ints, and is not too long. -/
import Derived.Test.YtkjaepcdhclmfaaDoorOwn
import Derived.Test.YtkjaepcdhclmfaaDoorChecked
import Derived.IntWalk
namespace Go.Proofs.YtkjaepcdhclmfaaDoor
open Go.RowKit

end Go.Proofs.YtkjaepcdhclmfaaDoor
