/- The drawings of a network and a state: CycleLines, BridgeLines. -/
import Derived.Test.YtcdliaabbhoagaaDoorBDB
namespace Go.Proofs.YtcdliaabbhoagaaDoor
open Go.ChangeShapes Go.WideShapes Go.ChangeAt Go.RowKit

end Go.Proofs.YtcdliaabbhoagaaDoor
