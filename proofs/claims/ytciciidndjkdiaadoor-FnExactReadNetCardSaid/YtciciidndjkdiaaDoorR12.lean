/- The walks of the laws on reading, with what the library says. -/
import Derived.Test.YtciciidndjkdiaaDoorR7
import Derived.Test.YtciciidndjkdiaaDoorR10
import Derived.Test.YtciciidndjkdiaaDoorT5
import Derived.Test.YtciciidndjkdiaaDoorR13
import Derived.Test.YtciciidndjkdiaaDoorR15
namespace Go.Proofs.YtciciidndjkdiaaDoor
open Go.ChangeShapes Go.WideShapes Go.ChangeAt Go.RowKit

theorem exactReadNet_row (W : World) (s : ByteArray) (_ : s.size ≤ maxLen) (hl : LibEnv W) :
    Calls Tryd.prog 6 #[.string s] W fun e w' => e = .returned (.bool true) ∧ Below W.heap.size W w' :=
  exactReadNet_walk cutSays atoiSays splitSays itoaSays s W hl
theorem netText_row (W : World) (A : Option Addr) (n c : Nat) (code : List Int) (hr : RowB W A n code) (hnc : n ≤ c) (hc : c ≤ 9223372036854775807) (hl : LibEnv W) :
    Calls Tryd.prog 3 #[.slice A n c] W fun e w' => e = .returned (.bool true) ∧ Below W.heap.size W w' :=
  netText_walk cutSays atoiSays splitSays itoaSays W A n c code hr hnc hc hl
theorem readNet_row (W : World) (A : Option Addr) (n c : Nat) (code : List Int) (hr : RowB W A n code) (hnc : n ≤ c) (hc : c ≤ 9223372036854775807) (hl : LibEnv W) :
    Calls Tryd.prog 4 #[.slice A n c] W fun e w' => e = .returned (.bool true) ∧ Below W.heap.size W w' :=
  readNet_walk cutSays atoiSays splitSays itoaSays W A n c code hr hnc hc hl
end Go.Proofs.YtciciidndjkdiaaDoor
