/- Switching orders: the rows' walks of the exact laws of OrderText and ReadOrder. -/
import Derived.Test.YtfedffekbemcoaaDoorOrI
import Derived.Test.YtfedffekbemcoaaDoorR7
import Derived.Test.YtfedffekbemcoaaDoorT5
namespace Go.Proofs.YtfedffekbemcoaaDoor
open Go.ChangeShapes Go.WideShapes Go.ChangeAt Go.RowKit
theorem exactReadOrder_row (W : World) (s : ByteArray) (_ : s.size ≤ maxLen) (hl : LibEnv W) :
    Calls Tryd.prog 10 #[.string s] W fun e W' => e = .returned (.bool true) ∧ Below W.heap.size W W' :=
  exactReadOrder_walk cutSays atoiSays splitSaysO itoaSays joinSays s W hl
theorem exactOrderText_row (W : World) (A : Option Addr) (n c : Nat) (us : List TP) (hn : n ≤ 9223372036854775807) (hr : RowP W A n us) (ht : PowTab W) :
    Calls Tryd.prog 9 #[.slice A n c] W fun e W' => e = .returned (.bool true) ∧ Below W.heap.size W W' :=
  exactOrderText_walk itoaSays joinSays W A n c us hn hr ht
end Go.Proofs.YtfedffekbemcoaaDoor
