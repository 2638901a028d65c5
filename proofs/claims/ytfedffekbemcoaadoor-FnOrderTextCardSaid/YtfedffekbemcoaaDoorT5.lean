/- Itoa's contract off the shelf. -/
import Derived.Test.YtfedffekbemcoaaDoorShelf
import Derived.Test.YtfedffekbemcoaaDoorT3
import Derived.Lib.AppendIntMem
namespace Go.Proofs.YtfedffekbemcoaaDoor
open Go.ChangeShapes Go.WideShapes Go.ChangeAt Go.RowKit

theorem itoaSays : ItoaSays := fun x w h0 h1 ht =>
  (Tryd.strconv_Itoa x (by omega) h1 w ht).mono fun e w' h => by
    obtain ⟨he, k, os, hw⟩ := h
    subst hw
    refine ⟨?_, Lib.below_grow _ w (Nat.le_refl _) k os⟩
    rw [he, Lib.itoa, if_neg (by omega)]
    rfl
end Go.Proofs.YtfedffekbemcoaaDoor
