/- The library's variables, off what a row lists. -/
import Derived.Test.YtfedffekbemcoaaDoorRows
import Derived.Test.YtfedffekbemcoaaDoorShelf
import Derived.Test.YtfedffekbemcoaaDoorR5
import Derived.Stop.LaidErr
import Derived.Stop.Joined
import Derived.LaidSub
import Derived.MakeChecks
namespace Go.Proofs.YtfedffekbemcoaaDoor
open Go.ChangeShapes Go.WideShapes Go.ChangeAt Go.RowKit

def anyInterp : Stop.Interp := fun _ _ _ => 0
theorem star_err : "*" ++ "errors.errorString" = "*errors.errorString" := by decide
theorem rowErr (u : TypeId) (h : Tryd.prog.typeName? 3 u = some "*errors.errorString") : u = 146 :=
  typeName_ptr_named (nm := "errors.errorString") (by rw [star_err]; kernel_rfl) (by kernel_rfl) (by decide) u (by rw [star_err]; exact h)
theorem libEnv_of {w : World} (hs : w.ShapedOpen Tryd.prog) (hp : PowTab w) (h1 : laidMet Tryd.prog [("strconv.ErrSyntax", Rows.laid_strconv_ErrSyntax)] w) (h2 : laidMet Tryd.prog [("strconv.ErrRange", Rows.laid_strconv_ErrRange)] w) : LibEnv w := by
  obtain ⟨a0, t0, hv0, _⟩ := laid_sentinel (g := 4) h1 (by kernel_rfl) (by kernel_rfl) Tryd.underlying94 rowErr Tryd.underlying146 Tryd.underlying148 rfl rfl Tryd.underlying9 (by kernel_rfl) (by kernel_rfl)
  obtain ⟨a1, t1, hv1, _⟩ := laid_sentinel (g := 5) h2 (by kernel_rfl) (by kernel_rfl) Tryd.underlying94 rowErr Tryd.underlying146 Tryd.underlying148 rfl rfl Tryd.underlying9 (by kernel_rfl) (by kernel_rfl)
  have c0 := World.var?_cell (g := 4) (by kernel_rfl) hv0 0
  have c1 := World.var?_cell (g := 5) (by kernel_rfl) hv1 0
  exact ⟨Tryd.laysM145.s1_3 w hs, ⟨_, _, c0⟩, ⟨_, _, c1⟩, hp⟩
end Go.Proofs.YtfedffekbemcoaaDoor
