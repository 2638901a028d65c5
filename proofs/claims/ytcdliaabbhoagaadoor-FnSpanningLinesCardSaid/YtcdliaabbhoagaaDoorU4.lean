/- FnCycleLines: the walk. -/
import Derived.Test.YtcdliaabbhoagaaDoorD3
import Derived.Test.YtcdliaabbhoagaaDoorG3
import Derived.Test.YtcdliaabbhoagaaDoorBCE
import Derived.Test.YtcdliaabbhoagaaDoorK3
import Derived.Test.YtcdliaabbhoagaaDoorK4
import Derived.Test.YtcdliaabbhoagaaDoorQ5
import Derived.Test.YtcdliaabbhoagaaDoorU1
import Derived.Deep.RegionHeld3
namespace Go.Proofs.YtcdliaabbhoagaaDoor
open Go.ChangeShapes Go.WideShapes Go.ChangeAt Go.RowKit

theorem sw_in {bs : Int} {ls : List L3} {ts : List Bool} {k : Nat} (hk : k < ts.length) (hs : stOk bs ls ts.length = true) (sw : Bool) : swF bs ls ts (k : Int) sw = ts.set k sw := by
  rw [swF, if_pos hs, if_pos (by omega)]; rfl
theorem holdT {w w' : World} {X b o : Nat} {u v x : Value} (p0 : w.cell? ⟨X, 0, none⟩ = some u) (p1 : w.cell? ⟨X, 1, none⟩ = some v) (hX : X < w.heap.size) (g0 : w.cell? ⟨b, o, none⟩ = some x) (hbb : b < w.heap.size) (hb : Below w.heap.size w w') :
    Below w.heap.size w w' ∧ w'.cell? ⟨X, 0, none⟩ = some u ∧ w'.cell? ⟨X, 1, none⟩ = some v ∧ w'.cell? ⟨b, o, none⟩ = some x :=
  ⟨hb, (hb.cell (p := ⟨X, 0, none⟩) hX).trans p0, (hb.cell (p := ⟨X, 1, none⟩) hX).trans p1, (hb.cell (p := ⟨b, o, none⟩) hbb).trans g0⟩
/-- A line of a cycle: it is on, and without it the numbers of the islands are the same. -/
theorem cyc_at {bs : Int} {ls : List L3} {ts : List Bool} {j : Nat} {z : Int} (h : (linF bs ls ts false)[j]? = some z) : ∃ k : Nat, z = (k : Int) ∧ k < ts.length ∧ ts[k]? = some true ∧ stOk bs ls ts.length = true ∧ islF bs ls (ts.set k false) = islF bs ls ts := by
  obtain ⟨hs, k, rfl, hk, hl⟩ := linF_at h
  rw [linB, if_neg (by decide)] at hl
  obtain ⟨h1, h2⟩ := cyc_same hs hk hl
  exact ⟨k, rfl, hk, h2, hs, h1⟩

end Go.Proofs.YtcdliaabbhoagaaDoor
