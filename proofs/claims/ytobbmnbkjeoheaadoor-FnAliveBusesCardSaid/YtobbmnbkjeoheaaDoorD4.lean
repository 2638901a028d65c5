/- The drawings of a network with a line, a bus or two buses. -/
import Derived.Test.YtobbmnbkjeoheaaDoorD2
namespace Go.Proofs.YtobbmnbkjeoheaaDoor
open Go.ChangeShapes Go.WideShapes Go.ChangeAt Go.RowKit

/-- While something is drawn beside a network: the result's block, the reader at R, the network's block X, its lines. -/
structure DrawSt (w wx : World) (R X : Nat) (lim bs : Int) (v : Value) (ls : List L3) : Prop where
  ret : IsBlk wx w.heap.size 25 #[.int .i64 0, .slice none 0 0]
  hR : w.heap.size < R
  var : IsBlk wx X 25 #[.int .i64 bs, v]
  hX : R < X
  own : OwnL wx (R + 1) v ls
  rd : Rd wx R lim
  bel : Below w.heap.size w wx
section
variable {w wx w' : World} {R X : Nat} {lim lim' bs : Int} {v : Value} {ls : List L3}
theorem DrawSt.pick (h : DrawSt w wx R X lim bs v ls) (hr : Rd w' R lim') (hg : wx.grownBy w' (some R)) : DrawSt w w' R X lim' bs v ls := by
  have h1 := h.hR
  have h2 := h.hX
  exact ⟨(hg.block _ h.ret.lt (by simp; omega)).trans h.ret, h1, (hg.block _ h.var.lt (by simp; omega)).trans h.var, h2,
    h.own.far hg (fun q hq e => by injection e with e; have := (World.ownsRow.lt h.own q hq).1; omega), hr, h.bel.grown hg h.bel.size (fun q hq => by injection hq with hq; omega)⟩
theorem DrawSt.drew (h : DrawSt w wx R X lim bs v ls) : DrawSt w wx.drew R X lim bs v ls := ⟨h.ret, h.hR, h.var, h.hX, h.own, h.rd, h.bel.drew⟩
/-- The result is stored. -/
theorem DrawSt.done {A : Option Addr} {c : Nat} (h : DrawSt w wx R X lim bs (.slice A ls.length c) ls) (u : Value) :
    RowL ((wx.setCell ⟨w.heap.size, 0, none⟩ u).setCell ⟨w.heap.size, 1, none⟩ (.slice A ls.length c)) A ls.length ls ∧ Below w.heap.size w ((wx.setCell ⟨w.heap.size, 0, none⟩ u).setCell ⟨w.heap.size, 1, none⟩ (.slice A ls.length c)) := by
  have h1 := h.hR
  have g2 : wx.grownBy ((wx.setCell ⟨w.heap.size, 0, none⟩ u).setCell ⟨w.heap.size, 1, none⟩ (.slice A ls.length c)) (some w.heap.size) := grown_then (grown_put _ _ _ _) (grown_put _ _ _ _)
  have o2 := h.own.far g2 (fun q hq e => by injection e with e; have := (World.ownsRow.lt h.own q hq).1; omega)
  refine ⟨?_, h.bel.grown g2 h.bel.size (fun q hq => by injection hq with hq; omega)⟩
  obtain ⟨A', c', e, hr⟩ := o2.row
  injection e with e1
  subst e1; exact hr
end

/-- What is behind the reader and the network. -/
theorem draw_start {w w1 w2 : World} {R : Nat} {bs : Int} {v : Value} {ls : List L3} (hb1 : Below (w.heap.size + 1) (w.alloc (.cells #[.int .i64 0, .slice none 0 0] 25)) w1) (hR : R = w.heap.size + 1) (hs : w1.heap.size = w.heap.size + 1 + 1)
    (ho : OwnL w2 (w1.heap.size + 1) v ls) (hr : Rd w2 R 100) (hg : w1.grownBy w2 (some R)) : DrawSt w (w2.alloc (.cells #[.int .i64 bs, v] 25)) R w2.heap.size 100 bs v ls := by
  subst hR
  have h12 := hg.size
  have k1 : IsBlk w1 w.heap.size 25 #[.int .i64 0, .slice none 0 0] := (IsBlk.new w 25 #[.int .i64 0, .slice none 0 0]).below hb1 (by omega)
  have o2 : OwnL w2 (w.heap.size + 1 + 1) v ls := by
    refine ⟨ho.1, ?_⟩
    rcases ho.2 with h | ⟨g, cap, cur, h1, h2, h3⟩
    · exact .inl h
    · exact .inr ⟨g, cap, cur, h1, by omega, h3⟩
  have b1 : Below w.heap.size w w1 := (below_bx w _).trans (hb1.mono (by omega))
  refine ⟨IsBlk.alloc ((hg.block _ k1.lt (by simp)).trans k1) _, by omega, IsBlk.new _ _ _, by omega, o2.keep (below_bx _ _), hr.alloc _, (b1.grown hg (by omega) (fun q hq => by injection hq with hq; omega)).alloc (by omega) _⟩

end Go.Proofs.YtobbmnbkjeoheaaDoor
