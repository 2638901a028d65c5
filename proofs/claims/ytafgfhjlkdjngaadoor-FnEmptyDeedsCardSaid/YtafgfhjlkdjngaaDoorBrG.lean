/- Busbars: the drawings of bars, of bars and a deed, a bay and a bar, a bar. -/
import Derived.Test.YtafgfhjlkdjngaaDoorBrF
namespace Go.Proofs.YtafgfhjlkdjngaaDoor
open Go.ChangeShapes Go.WideShapes Go.ChangeAt Go.RowKit

/-- Bars that were drawn: a value of the call's own, one to seven sides. -/
def DrawnR (w w' : World) (A : Option Addr) (n c : Nat) (ss : List Int) : Prop := ss.length = n ∧ 1 ≤ n ∧ n ≤ 7 ∧ OwnI 3 w' w.heap.size (.slice A n c) ss ∧ Below w.heap.size w w'

end Go.Proofs.YtafgfhjlkdjngaaDoor
