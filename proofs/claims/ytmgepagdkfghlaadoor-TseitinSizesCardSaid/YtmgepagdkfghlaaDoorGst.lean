/- A graph of the call's own, as the statements use it ('GSt'): what each call on it answers and leaves; skolemlaw8.first answers true. Conditions: the two errors lie as 'Sents2' says; the numbers are 64-bit ints. -/
import Derived.Test.YtmgepagdkfghlaaDoorGrI
namespace Go.Proofs.YtmgepagdkfghlaaDoor
open Go.RowKit

end Go.Proofs.YtmgepagdkfghlaaDoor
