/- Switching orders: the contracts as the exact laws' walks want them. -/
import Derived.Test.YtfedffekbemcoaaOr2
import Derived.Test.YtfedffekbemcoaaOr1
import Derived.Test.YtfedffekbemcoaaSP4
namespace Go.Proofs.Ytfedffekbemcoaa
open Go.ChangeShapes Go.WideShapes Go.ChangeAt Go.RowKit
theorem backF_len (ss : List TP) : (backF ss).length ≤ ss.length := by rw [backF]; split <;> simp [backO_len]
theorem orderValid_x (A : Option Addr) (n c : Nat) (ss : List TP) (w : World) (hn : n ≤ 1048576) (hr : RowP w A n ss) :
    Calls Try.prog 10 #[.slice A n c] w fun e w' => e = .returned (.bool (ordOk ss)) ∧ Below w.heap.size w w' := orderValid_any A n c ss w (by omega) hr
theorem specOrderValid_x (A : Option Addr) (n c : Nat) (ss : List TP) (w : World) (hn : n ≤ 1048576) (hr : RowP w A n ss) :
    Calls Try.prog 8 #[.slice A n c] w fun e w' => e = .returned (.bool (ordOk ss)) ∧ w = w' := specOrderValid_any A n c ss w (by omega) hr
end Go.Proofs.Ytfedffekbemcoaa
