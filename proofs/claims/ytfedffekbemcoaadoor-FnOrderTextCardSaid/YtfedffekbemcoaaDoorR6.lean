/- Reading of texts, the program's half: lineIn. -/
import Derived.Test.YtfedffekbemcoaaDoorR5
namespace Go.Proofs.YtfedffekbemcoaaDoor
open Go.ChangeShapes Go.WideShapes Go.ChangeAt Go.RowKit

theorem cut_le (p q : Bs) : (Lib.cut p q).1.length ≤ p.length ∧ (Lib.cut p q).2.1.length ≤ p.length := by
  unfold Lib.cut
  split
  · simp only [List.length_take, List.length_drop]; omega
  · simp
end Go.Proofs.YtfedffekbemcoaaDoor
