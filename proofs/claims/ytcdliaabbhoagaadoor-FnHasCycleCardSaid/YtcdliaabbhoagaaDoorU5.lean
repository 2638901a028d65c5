/- FnBridgeLines: the walk. -/
import Derived.Test.YtcdliaabbhoagaaDoorU3
import Derived.Test.YtcdliaabbhoagaaDoorU4
import Derived.Test.YtcdliaabbhoagaaDoorQ6
namespace Go.Proofs.YtcdliaabbhoagaaDoor
open Go.ChangeShapes Go.WideShapes Go.ChangeAt Go.RowKit

theorem bri_at {bs : Int} {ls : List L3} {ts : List Bool} {j : Nat} {z : Int} (h : (linF bs ls ts true)[j]? = some z) : ∃ k : Nat, z = (k : Int) ∧ k < ts.length ∧ stOk bs ls ts.length = true ∧ ((iofF bs ls (ts.set k false)).length : Int) = (iofF bs ls (ts.set k true)).length + 1 := by
  obtain ⟨hs, k, rfl, hk, hl⟩ := linF_at h
  rw [linB, if_pos rfl] at hl
  exact ⟨k, rfl, hk, hs, bri_more hs hk hl⟩
theorem holdB {w w' : World} {X : Nat} {u v : Value} (p0 : w.cell? ⟨X, 0, none⟩ = some u) (p1 : w.cell? ⟨X, 1, none⟩ = some v) (hX : X < w.heap.size) (hb : Below w.heap.size w w') : Below w.heap.size w w' ∧ w'.cell? ⟨X, 0, none⟩ = some u ∧ w'.cell? ⟨X, 1, none⟩ = some v :=
  ⟨hb, (hb.cell (p := ⟨X, 0, none⟩) hX).trans p0, (hb.cell (p := ⟨X, 1, none⟩) hX).trans p1⟩

end Go.Proofs.YtcdliaabbhoagaaDoor
