/- LinesAt, of the program and of the model. -/
import Derived.Test.YtapbmpodimdkpaaDoorBCB
import Derived.Maps.AppendAt
import Derived.OwnWalk
namespace Go.Proofs.YtapbmpodimdkpaaDoor
open Go.ChangeShapes Go.WideShapes Go.ChangeAt Go.RowKit

theorem intInfo : (Tryd.prog.info? 3).map (fun i => (i.zero, i.size, i.bytes)) = some (some (.int .i64 0), 1, 8) := by kernel_rfl

end Go.Proofs.YtapbmpodimdkpaaDoor
