/- The contract of graph's Input. Conditions: the graph lies in memory as 'GrM' says; the errors lie as 'Sents2' says; the number is a 64-bit int. -/
import Derived.Test.YtmgepagdkfghlaaDoorGrE
namespace Go.Proofs.YtmgepagdkfghlaaDoor
open Go.RowKit Go.Maps

end Go.Proofs.YtmgepagdkfghlaaDoor
