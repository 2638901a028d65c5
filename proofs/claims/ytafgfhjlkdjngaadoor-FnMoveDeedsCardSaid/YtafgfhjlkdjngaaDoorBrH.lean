/- Busbars: the drawings of bars and a deed, a bay and a bar, a bar (written by program). -/
import Derived.Test.YtafgfhjlkdjngaaDoorBrG
namespace Go.Proofs.YtafgfhjlkdjngaaDoor
open Go.ChangeShapes Go.WideShapes Go.ChangeAt Go.RowKit

/-- Bars that were drawn lie at block X, beside a result that is not set yet and a reader. -/
structure DbSt (w wr : World) (X : Nat) (lim : Int) (A : Option Addr) (n c : Nat) (ss : List Int) (t : Bool) : Prop where
  own : OwnI 3 wr (w.heap.size + 2) (.slice A n c) ss
  rd : Rd wr (w.heap.size + 1) lim
  bel : Below w.heap.size w wr
  ret : IsBlk wr w.heap.size 25 #[.slice none 0 0, .bool false]
  var : IsBlk wr X 25 #[.slice A n c, .bool t]
  hX : w.heap.size + 2 ≤ X
section
variable {w wr w' : World} {X n c : Nat} {lim lim' : Int} {A : Option Addr} {ss : List Int} {t : Bool}
theorem DbSt.pick (h : DbSt w wr X lim A n c ss t) (hr : Rd w' (w.heap.size + 1) lim') (hg : wr.grownBy w' (some (w.heap.size + 1))) : DbSt w w' X lim' A n c ss t :=
  ⟨OwnI.far h.own hg (fun q hq e => by injection e with e; have := (OwnI.lt h.own q hq).1; omega), hr, h.bel.grown hg h.bel.size (fun k e => by injection e with e; omega),
    h.ret.farG hg (fun e => by injection e with e; omega), h.var.farG hg (fun e => by injection e with e; have := h.hX; omega), h.hX⟩
theorem DbSt.drew (h : DbSt w wr X lim A n c ss t) : DbSt w wr.drew X lim A n c ss t := ⟨h.own, h.rd, h.bel.drew, h.ret, h.var, h.hX⟩
theorem DbSt.next (h : DbSt w wr X lim A n c ss t) (hb : Below wr.heap.size wr w') : DbSt w w' X lim A n c ss t := ⟨OwnI.keep h.own hb, h.rd.keep hb, h.bel.trans (hb.mono h.bel.size), h.ret.keep hb, h.var.keep hb, h.hX⟩
theorem DbSt.done (h : DbSt w wr X lim A n c ss t) (a b : Value) (hl : ss.length = n) (h1 : 1 ≤ n) (h7 : n ≤ 7) : DrawnR w ((wr.setCell ⟨w.heap.size, 0, none⟩ a).setCell ⟨w.heap.size, 1, none⟩ b) A n c ss :=
  ⟨hl, h1, h7, OwnI.ret2 (OwnI.moreR h.own (by omega)) (fun q hq => by have := (OwnI.lt h.own q hq).1; omega) _ _, below_two h.bel (Nat.le_refl _) _ _⟩
end
end Go.Proofs.YtafgfhjlkdjngaaDoor
