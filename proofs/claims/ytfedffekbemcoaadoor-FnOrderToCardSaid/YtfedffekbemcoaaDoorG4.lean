/- The drawings of a network with a state, of two states, of a state with a list of lines. -/
import Derived.Test.YtfedffekbemcoaaDoorBDB
import Derived.Test.YtfedffekbemcoaaDoorBCC
namespace Go.Proofs.YtfedffekbemcoaaDoor
open Go.ChangeShapes Go.WideShapes Go.ChangeAt Go.RowKit

theorem OwnT.done {wx : World} {base q : Nat} {v : Value} {ts : List Bool} (h : OwnT wx base v ts) (hq : q < base) (u u' : Value) : OwnT ((wx.setCell ⟨q, 0, none⟩ u).setCell ⟨q, 1, none⟩ u') base v ts :=
  h.far (grown_then (grown_put _ _ _ _) (grown_put _ _ _ _)) (fun p hp e => by injection e with e; have := (h.lt p hp).1; omega)

theorem draw_start2 {w w1 w2 : World} {bs : Int} {v : Value} {ls : List L3} (hb1 : Below w.heap.size w w1) (hs : w1.heap.size = w.heap.size + 1)
    (ho : OwnL w2 (w1.heap.size + 1) v ls) (hr : Rd w2 w.heap.size 100) (hg : w1.grownBy w2 (some w.heap.size)) : DrawS2 w (w2.alloc (.cells #[.int .i64 bs, v] 41)) w.heap.size w2.heap.size 100 bs v ls := by
  have h12 := hg.size
  have o2 : OwnL w2 (w.heap.size + 1) v ls := by
    refine ⟨ho.1, ?_⟩
    rcases ho.2 with h | ⟨g, cap, cur, h1, h2, h3⟩
    · exact .inl h
    · exact .inr ⟨g, cap, cur, h1, by omega, h3⟩
  exact ⟨Nat.le_refl _, IsBlk.new _ _ _, by omega, o2.keep (below_bx _ _), hr.alloc _, (hb1.grown hg (by omega) (fun q hq => by injection hq with hq; omega)).alloc (by omega) _⟩

end Go.Proofs.YtfedffekbemcoaaDoor
