/- Bays, of the model: BayDo, BayRun, numbers of bays. -/
import Derived.Test.YtapbmpodimdkpaaBay2
import Derived.Deep.CutBlock
import Derived.RegionTactic
import Derived.Deep.RegionWith
namespace Go.Proofs.Ytapbmpodimdkpaa
open Go.ChangeShapes Go.WideShapes Go.ChangeAt Go.RowKit

theorem do_set {b : B4} {k : Nat} (hk : k < 8) (hm : mayN b k = true) : doF b (k : Int) = setF b (k / 2) (k % 2 == 1) := by rw [doF_nat hk hm]; rfl
theorem newBay {wr w1 : World} {t : TypeId} {a b c e : Value} (h : Below (wr.alloc (.cells #[a, b, c, e] t)).drew.heap.size (wr.alloc (.cells #[a, b, c, e] t)).drew w1) : IsBlk w1 wr.heap.size t #[a, b, c, e] :=
  (show IsBlk (wr.alloc (.cells #[a, b, c, e] t)).drew wr.heap.size t #[a, b, c, e] from IsBlk.new wr _ _).keep h
theorem newBay_b {wr w1 : World} {o : Obj} (h : Below (wr.alloc o).drew.heap.size (wr.alloc o).drew w1) : Below wr.heap.size wr w1 := ((below_bx wr o).drew).trans (h.mono (by simp [World.drew]))
end Go.Proofs.Ytapbmpodimdkpaa
