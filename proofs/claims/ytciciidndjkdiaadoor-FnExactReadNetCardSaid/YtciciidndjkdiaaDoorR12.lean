/- The walks of the laws on reading, with what the library says. -/
import Derived.Test.YtciciidndjkdiaaDoorR7
import Derived.Test.YtciciidndjkdiaaDoorR10
import Derived.Test.YtciciidndjkdiaaDoorT5
namespace Go.Proofs.YtciciidndjkdiaaDoor
open Go.ChangeShapes Go.WideShapes Go.ChangeAt Go.RowKit

theorem exactReadNet_row (W : World) (s : ByteArray) (_ : s.size ≤ maxLen) (hl : LibEnv W) :
    Calls Tryd.prog 6 #[.string s] W fun e w' => e = .returned (.bool true) ∧ Below W.heap.size W w' :=
  exactReadNet_walk cutSays atoiSays splitSays itoaSays s W hl
end Go.Proofs.YtciciidndjkdiaaDoor
