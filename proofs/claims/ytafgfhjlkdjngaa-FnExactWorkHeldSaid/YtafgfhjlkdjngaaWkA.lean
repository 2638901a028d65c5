/- Permits: how long the answers are; both for the exact laws of WorkHeld, WorkClose. -/
import Derived.Test.YtafgfhjlkdjngaaWk9
namespace Go.Proofs.Ytafgfhjlkdjngaa
open Go.ChangeShapes Go.WideShapes Go.ChangeAt Go.RowKit

theorem heldF_len (x : Wk) (z : Int) : (heldF x z).length ≤ x.2.2.length := by
  rw [heldF]; split
  · exact heldL_len _ _
  · simp
theorem closeF_len (x : Wk) : (closeF x).length ≤ 100 := by
  rw [closeF]; split
  · rename_i h
    obtain ⟨a, e, ps⟩ := x
    obtain ⟨h1, h2, h3, h4⟩ := wk_sizes h
    rw [closeL_eq rfl h3.symm rfl, List.length_append, List.length_append]
    have := backTo_len ps ps.length
    have := whereTo_len e true 3 a.length
    have := whereTo_len a false 0 a.length
    omega
  · simp
theorem OwnI.shapeW {e : TypeId} {w : World} {base : Nat} {v : Value} {zs : List Int} (h : OwnI e w base v zs) : ∃ A c, v = .slice A zs.length c := by
  rcases h.2 with ⟨rfl, h0⟩ | ⟨g, cap, cur, rfl, _⟩
  · exact ⟨none, 0, by rw [h0]⟩
  · exact ⟨_, _, rfl⟩
end Go.Proofs.Ytafgfhjlkdjngaa
