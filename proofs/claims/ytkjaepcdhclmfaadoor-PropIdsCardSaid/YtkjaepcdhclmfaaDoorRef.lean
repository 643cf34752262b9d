/- Contracts of the document's own small helpers: skolemref.Abs, skolemref1.Is, before, Rename. Conditions: the literals are 64-bit ints above the least, the lists are short. -/
import Derived.Test.YtkjaepcdhclmfaaDoorRename
import Derived.Test.YtkjaepcdhclmfaaDoorCheckP
namespace Go.Proofs.YtkjaepcdhclmfaaDoor
open Go.RowKit

end Go.Proofs.YtkjaepcdhclmfaaDoor
