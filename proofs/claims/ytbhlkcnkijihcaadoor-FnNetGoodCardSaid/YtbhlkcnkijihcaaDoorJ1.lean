/- IslandsOf, of the program and of the model. -/
import Derived.Test.YtbhlkcnkijihcaaDoorJ0
import Derived.OwnWalk
namespace Go.Proofs.YtbhlkcnkijihcaaDoor
open Go.ChangeShapes Go.WideShapes Go.ChangeAt Go.RowKit

/-- The islands whose first bus is less than k. -/
noncomputable def iofTo (es : List E2) (nb k : Nat) : List (List Int) := (heads es k).map fun b => ofN (reachF es nb b)
theorem iofTo_yes {es : List E2} {nb k : Nat} (h : leastF es k = k) : iofTo es nb (k + 1) = iofTo es nb k ++ [ofN (reachF es nb k)] := by rw [iofTo, heads_yes h, List.map_append]; rfl
theorem iofTo_no {es : List E2} {nb k : Nat} (h : leastF es k ≠ k) : iofTo es nb (k + 1) = iofTo es nb k := by rw [iofTo, heads_no h]; rfl
theorem iofTo_len (es : List E2) (nb k : Nat) : (iofTo es nb k).length ≤ k := by rw [iofTo, List.length_map]; exact heads_len es k

end Go.Proofs.YtbhlkcnkijihcaaDoor
