/- Conversions, comparisons and marks of the exact laws at slices of truths, and of numbers that come in. -/
import Derived.Test.YtobbmnbkjeoheaaDoorA2
import Derived.Test.YtobbmnbkjeoheaaDoorBase2
import Derived.Laws.MakeOwn
import Derived.OwnWalk
import Derived.Deep.QuietTactic
import Derived.BigQuiet
namespace Go.Proofs.YtobbmnbkjeoheaaDoor
open Go.ChangeShapes Go.WideShapes Go.ChangeAt Go.RowKit

theorem take_set1 (cu : Array Value) (k : Nat) (u : Value) (h : k < cu.size) : (cu.setIfInBounds k u).toList.take (k + 1) = cu.toList.take k ++ [u] := by
  have hl : k < cu.toList.length := by simpa using h
  rw [Array.toList_setIfInBounds, List.take_add_one, List.take_set_of_le (Nat.le_refl _), List.getElem?_set_self hl]; rfl



/-- What marks write. -/
def marksT (k0 : Int) (n : Nat) : List Bool := (List.range n).map fun (j : Nat) => ((k0 + (j : Int)) % 3 == 0)
theorem marksT_len (k0 : Int) (n : Nat) : (marksT k0 n).length = n := by simp [marksT]
theorem marksT_succ (k0 : Int) (n : Nat) : marksT k0 (n + 1) = marksT k0 n ++ [((k0 + (n : Int)) % 3 == 0)] := by rw [marksT, List.range_succ, List.map_append]; rfl
theorem marksT_get {k0 : Int} {n j : Nat} (h : j < n) : (marksT k0 n)[j]? = some ((k0 + (j : Int)) % 3 == 0) := by rw [marksT, List.getElem?_map, List.getElem?_range h]; rfl
end Go.Proofs.YtobbmnbkjeoheaaDoor
