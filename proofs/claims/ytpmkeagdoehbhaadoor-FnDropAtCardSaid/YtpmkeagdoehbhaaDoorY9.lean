/- FnAliveBuses: the walk. -/
import Derived.Test.YtpmkeagdoehbhaaDoorD3
import Derived.Test.YtpmkeagdoehbhaaDoorBDB
import Derived.Test.YtpmkeagdoehbhaaDoorBKA
import Derived.Test.YtpmkeagdoehbhaaDoorBDC
import Derived.Test.YtpmkeagdoehbhaaDoorBPC
import Derived.Deep.RegionHeld3
namespace Go.Proofs.YtpmkeagdoehbhaaDoor
open Go.ChangeShapes Go.WideShapes Go.ChangeAt Go.RowKit

theorem swV_at {bs : Int} {ls : List L3} {ts : List Bool} {k : Nat} (hk : k < ts.length) (hs : stOk bs ls ts.length = true) (sw : Bool) : swF bs ls ts (k : Int) sw = ts.set k sw := by
  rw [swF, if_pos hs, if_pos (by omega)]; rfl
theorem holdA {w w' : World} {X b o o1 b' o' : Nat} {u v x y z : Value} (p0 : w.cell? ⟨X, 0, none⟩ = some u) (p1 : w.cell? ⟨X, 1, none⟩ = some v) (hX : X < w.heap.size) (g0 : w.cell? ⟨b, o, none⟩ = some x) (g1 : w.cell? ⟨b, o1, none⟩ = some y) (hbb : b < w.heap.size) (e0 : w.cell? ⟨b', o', none⟩ = some z) (hbe : b' < w.heap.size) (hb : Below w.heap.size w w') :
    Below w.heap.size w w' ∧ w'.cell? ⟨X, 0, none⟩ = some u ∧ w'.cell? ⟨X, 1, none⟩ = some v ∧ w'.cell? ⟨b, o, none⟩ = some x ∧ w'.cell? ⟨b, o1, none⟩ = some y ∧ w'.cell? ⟨b', o', none⟩ = some z :=
  ⟨hb, (hb.cell (p := ⟨X, 0, none⟩) hX).trans p0, (hb.cell (p := ⟨X, 1, none⟩) hX).trans p1, (hb.cell (p := ⟨b, o, none⟩) hbb).trans g0, (hb.cell (p := ⟨b, o1, none⟩) hbb).trans g1, (hb.cell (p := ⟨b', o', none⟩) hbe).trans e0⟩
end Go.Proofs.YtpmkeagdoehbhaaDoor
