/- Arguments of the laws, opened: truths inside a struct. -/
import Derived.Test.YtafgfhjlkdjngaaOpen3
import Derived.Test.YtafgfhjlkdjngaaSJ2
namespace Go.Proofs.Ytafgfhjlkdjngaa
open Go.ChangeShapes Go.WideShapes Go.ChangeAt Go.RowKit Go.Joins Go.Deep

theorem openTruthsF {H : Type} {enc : TypeId × Value → H} {w : World} {base : Nat} {held : Bool} {fuel : Nat} {v : Value} {y : DataW H × List MemPlace}
    (h : DataW.trod enc Try.prog w base (fun _ => true) held fuel 36 [v] = some y) : ∃ A n c ts, v = .slice A n c ∧ n ≤ 9223372036854775807 ∧ RowT w A n ts := by
  rcases open_bools Try.underlying36 Try.underlying4 (by kernel_rfl) h with ⟨hcs, _⟩ | ⟨x, l, c', B, hcs, _, hl, hm, _, hcell⟩
  · simp at hcs
    exact ⟨none, 0, 0, [], hcs, by omega, RowT.none_⟩
  · simp at hcs
    refine ⟨some x, l, c', (List.range l).map B, hcs, by simp only [maxLen] at hm; omega, rowV_of (c := c') (by simp) hl fun i hi => ⟨_, hcell i hi, fun hin => ?_⟩⟩
    rw [List.getElem?_map, List.getElem?_map, List.getElem?_range hin]; rfl
end Go.Proofs.Ytafgfhjlkdjngaa
