/- The laws' own helpers: the fixed answer, lists that are compared, and the drawing of a network alone. -/
import Derived.Test.YtpmkeagdoehbhaaBCB
import Derived.Test.YtpmkeagdoehbhaaBD1
namespace Go.Proofs.Ytpmkeagdoehbhaa
open Go.ChangeShapes Go.WideShapes Go.ChangeAt Go.RowKit

end Go.Proofs.Ytpmkeagdoehbhaa
