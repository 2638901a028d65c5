/- The laws' own helpers of chapter 5; what a region holds. -/
import Derived.Test.YtbhlkcnkijihcaaDoorD3
import Derived.Test.YtbhlkcnkijihcaaDoorBPA
import Derived.Test.YtbhlkcnkijihcaaDoorBPC
import Derived.Test.YtbhlkcnkijihcaaDoorJ1
import Derived.Test.YtbhlkcnkijihcaaDoorBCD
import Derived.Test.YtbhlkcnkijihcaaDoorV6
import Derived.Test.YtbhlkcnkijihcaaDoorBDC
namespace Go.Proofs.YtbhlkcnkijihcaaDoor
open Go.ChangeShapes Go.WideShapes Go.ChangeAt Go.RowKit

theorem holdH {w w' : World} {X b o b' o' : Nat} {u v x z : Value} (p0 : w.cell? ⟨X, 0, none⟩ = some u) (p1 : w.cell? ⟨X, 1, none⟩ = some v) (hX : X < w.heap.size) (g0 : w.cell? ⟨b, o, none⟩ = some x) (hbb : b < w.heap.size) (e0 : w.cell? ⟨b', o', none⟩ = some z) (hbe : b' < w.heap.size) (hb : Below w.heap.size w w') :
    Below w.heap.size w w' ∧ w'.cell? ⟨X, 0, none⟩ = some u ∧ w'.cell? ⟨X, 1, none⟩ = some v ∧ w'.cell? ⟨b, o, none⟩ = some x ∧ w'.cell? ⟨b', o', none⟩ = some z :=
  ⟨hb, (hb.cell (p := ⟨X, 0, none⟩) hX).trans p0, (hb.cell (p := ⟨X, 1, none⟩) hX).trans p1, (hb.cell (p := ⟨b, o, none⟩) hbb).trans g0, (hb.cell (p := ⟨b', o', none⟩) hbe).trans e0⟩
end Go.Proofs.YtbhlkcnkijihcaaDoor
