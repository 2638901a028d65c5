/- Reached and SameIsland, of the program. -/
import Derived.Test.YtobbmnbkjeoheaaI4
namespace Go.Proofs.Ytobbmnbkjeoheaa
open Go.ChangeShapes Go.WideShapes Go.ChangeAt Go.RowKit

theorem OwnI.sl {e : TypeId} {w : World} {base : Nat} {v : Value} {zs : List Int} (h : OwnI e w base v zs) : ∃ A c, v = .slice A zs.length c ∧ RowZ w A zs.length zs := by
  rcases h.2 with ⟨rfl, h0⟩ | ⟨g, cap, cur, rfl, hb, hg, hn, hc, hsz, ht⟩
  · exact ⟨none, 0, by rw [h0], by
      have hz : zs = [] := List.eq_nil_of_length_eq_zero h0
      subst hz; exact RowZ.none_⟩
  · exact ⟨_, cap, rfl, OwnI.rowZ h⟩
theorem OwnI.more {e : TypeId} {w : World} {base base' : Nat} {v : Value} {zs : List Int} (h : OwnI e w base v zs) (hb : base' ≤ base) : OwnI e w base' v zs := by
  refine ⟨h.1, ?_⟩
  rcases h.2 with h2 | ⟨g, cap, cur, h1, h2, h3⟩
  · exact .inl h2
  · exact .inr ⟨g, cap, cur, h1, Nat.le_trans hb h2, h3⟩
theorem RowZ.keepB {w w' : World} {A : Option Addr} {n : Nat} {zs : List Int} (h : RowZ w A n zs) (hb : Below w.heap.size w w') : RowZ w' A n zs := h.below hb
theorem least_beq (es : List E2) (a b : Nat) : (((leastF es a : Nat) : Int) == ((leastF es b : Nat) : Int)) = connB es a b := by
  rw [Bool.eq_iff_iff, beq_iff_eq, connB_iff, ← leastF_eq]; omega
theorem rchTo_next (es : List E2) (bus k : Nat) : ofN (rchTo es bus (k + 1)) = ofN (rchTo es bus k) ++ (if connB es bus k = true then [(k : Int)] else []) := by
  cases h : connB es bus k
  · rw [rchTo_no h]; simp
  · rw [rchTo_yes h]; simp [ofN]

end Go.Proofs.Ytobbmnbkjeoheaa
