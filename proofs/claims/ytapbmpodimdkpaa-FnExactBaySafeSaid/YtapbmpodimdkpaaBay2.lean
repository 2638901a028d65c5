/- Bays, of the model: BayMay, BayDo, BayRun, numbers of bays. -/
import Derived.Test.YtapbmpodimdkpaaBay1
namespace Go.Proofs.Ytapbmpodimdkpaa
open Go.ChangeShapes Go.WideShapes Go.ChangeAt Go.RowKit

end Go.Proofs.Ytapbmpodimdkpaa
