/- Busbars: MoveDeeds of the model (written by program). -/
import Derived.Test.YtafgfhjlkdjngaaBr7
namespace Go.Proofs.Ytafgfhjlkdjngaa
open Go.ChangeShapes Go.WideShapes Go.ChangeAt Go.RowKit

theorem ownLitR (w : World) : OwnI 3 (w.alloc (.cells #[] 3)) w.heap.size (.slice (some ⟨w.heap.size, 0, none⟩) 0 0) [] := by
  have := World.ownsRow_lit (base := w.heap.size) (size := 1) (e := 3) w #[] 0 (Nat.le_refl _) (by decide) rfl
  simpa [OwnI] using this
end Go.Proofs.Ytafgfhjlkdjngaa
