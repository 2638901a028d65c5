/- Busbars: a drawing (written by program). -/
import Derived.Test.YtafgfhjlkdjngaaDoorBrH
namespace Go.Proofs.YtafgfhjlkdjngaaDoor
open Go.ChangeShapes Go.WideShapes Go.ChangeAt Go.RowKit

end Go.Proofs.YtafgfhjlkdjngaaDoor
