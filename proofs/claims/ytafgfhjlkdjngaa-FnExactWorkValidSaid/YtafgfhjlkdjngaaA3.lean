/- Conversions of the exact laws: a network of the law's types becomes one of the program's, in new memory. -/
import Derived.Test.YtafgfhjlkdjngaaBCA
import Derived.Laws.MakeOwn
import Derived.OwnWalk
namespace Go.Proofs.Ytafgfhjlkdjngaa
open Go.ChangeShapes Go.WideShapes Go.ChangeAt Go.RowKit

end Go.Proofs.Ytafgfhjlkdjngaa
