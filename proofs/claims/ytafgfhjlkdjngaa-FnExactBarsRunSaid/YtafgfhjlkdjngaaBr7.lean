/- Busbars: MoveDeeds, of the program and of the model (written by program). -/
import Derived.Test.YtafgfhjlkdjngaaBr6
namespace Go.Proofs.Ytafgfhjlkdjngaa
open Go.ChangeShapes Go.WideShapes Go.ChangeAt Go.RowKit

/-- A list of deeds in the making, behind a box. -/
structure MvSt (w wr : World) (bx : Array Value) (v : Value) (ds : List Int) : Prop where
  own : OwnI 3 wr (w.heap.size + 1) v ds
  bel : Below w.heap.size w wr
  box : IsBlk wr w.heap.size 26 bx
theorem MvSt.next {w wr w' : World} {bx : Array Value} {v : Value} {ds : List Int} (h : MvSt w wr bx v ds) (hb : Below wr.heap.size wr w') : MvSt w w' bx v ds :=
  ⟨OwnI.keep h.own hb, h.bel.trans (hb.mono h.bel.size), h.box.keep hb⟩
theorem MvSt.push {w wr w' : World} {bx : Array Value} {v v' : Value} {ds ds' : List Int} (h : MvSt w wr bx v ds) (o : Obj) (hown : OwnI 3 w' (w.heap.size + 1) v' ds') (hg : (wr.alloc o).grownBy w' v.ownBlock) : MvSt w w' bx v' ds' :=
  ⟨hown, (h.bel.alloc h.bel.size o).grown hg (by have := h.bel.size; simp; omega) (fun q hq => by have := (h.own.lt q hq).1; omega), (h.box.alloc o).farG hg (fun e => by have := (h.own.lt _ e).1; omega)⟩
end Go.Proofs.Ytafgfhjlkdjngaa
