/- FnExactNetValid: the walk and the row. -/
import Derived.Test.YtfedffekbemcoaaRows
import Derived.Test.YtfedffekbemcoaaBCA
import Derived.Test.YtfedffekbemcoaaA3
import Derived.Test.YtfedffekbemcoaaBCC
import Derived.OpenShut
import Derived.ShutString
import Derived.ChangeOld
import Derived.Lib.SmallJoins
import Derived.Deep.Slices
import Derived.Deep.Fields
import Derived.ChangeSame
namespace Go.Proofs.Ytfedffekbemcoaa
open Go.ChangeShapes Go.WideShapes Go.ChangeAt Go.RowKit Go.Joins Go.Deep

theorem own : ownKnob Try.prog.godebug = none := by kernel_rfl
theorem laidOut : laidOutB Try.prog = true := by kernel_rfl

theorem szNet_any (bs : Int) (A : Option Addr) (n c : Nat) (hn : n ≤ 9223372036854775807) (w : World) :
    Calls Try.prog 19 #[.agg #[.int .i64 bs, .slice A n c], .int .i64 1048576] w fun e w' => e = .returned (.int .i64 (if n ≤ 1048576 then 1048576 - n else -1)) ∧ Below w.heap.size w w' := by
  by_cases hc : n ≤ 1048576
  all_goals
    go_enter Try.func19, Try.ntmps19
    go_wp2_with fail
    refine (szLineS_any A n c _ rfl hn _).mono ?_
    rintro e w1 ⟨rfl, rfl⟩
    simp only [hc, if_true, if_false]
    go_wp2
    all_goals go_ret
    all_goals exact ⟨retI (by first | omega | rfl), below_bx _ _⟩

end Go.Proofs.Ytfedffekbemcoaa
