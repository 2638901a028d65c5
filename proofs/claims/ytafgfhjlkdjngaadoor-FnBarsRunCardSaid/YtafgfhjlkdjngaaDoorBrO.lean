/- Busbars: the promise of BarsDo: the walk. -/
import Derived.Test.YtafgfhjlkdjngaaDoorBrI
import Derived.Test.YtafgfhjlkdjngaaDoorBrM
namespace Go.Proofs.YtafgfhjlkdjngaaDoor
open Go.ChangeShapes Go.WideShapes Go.ChangeAt Go.RowKit

/-- Slices and boxes of bars that were laid, carried on together. -/
structure LawR (w wr : World) (X : Nat) (A : Option Addr) (n c : Nat) (ss : List Int) (t : Bool) : Prop where
  own : OwnI 3 wr w.heap.size (.slice A n c) ss
  box : IsBlk wr X 25 #[.slice A n c, .bool t]
theorem LawR.next {w wr w' : World} {X n c : Nat} {A : Option Addr} {ss : List Int} {t : Bool} (h : LawR w wr X A n c ss t) (hb : Below wr.heap.size wr w') : LawR w w' X A n c ss t :=
  ⟨OwnI.keep h.own hb, h.box.keep hb⟩
theorem LawR.alloc {w wr : World} {X n c : Nat} {A : Option Addr} {ss : List Int} {t : Bool} (h : LawR w wr X A n c ss t) (o : Obj) : LawR w (wr.alloc o) X A n c ss t := h.next (below_bx wr o)
theorem LawR.new {w wr : World} {n c B : Nat} {A : Option Addr} {ss : List Int} {t : Bool} (h : OwnI 3 wr B (.slice A n c) ss) (hB : w.heap.size ≤ B) : LawR w (wr.alloc (.cells #[.slice A n c, .bool t] 25)) wr.heap.size A n c ss t :=
  ⟨OwnI.alloc (OwnI.moreR h hB) _, IsBlk.new _ _ _⟩
theorem LawR.row {w wr : World} {X n c : Nat} {A : Option Addr} {ss : List Int} {t : Bool} (h : LawR w wr X A n c ss t) : RowZ wr A n ss := OwnI.rowZ h.own
theorem back_emodR {d : Int} (hb : 0 ≤ d) : d + 1 - 2 * d.tmod 2 = d + 1 - 2 * (d % 2) := by rw [Int.tmod_eq_emod_of_nonneg hb]

end Go.Proofs.YtafgfhjlkdjngaaDoor
