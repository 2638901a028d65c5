/- Bays, of the program: the table of what must be open, BaySafe, BayMay, BayDo, BayRun. -/
import Derived.Test.YtapbmpodimdkpaaBCA
import Derived.Test.YtapbmpodimdkpaaBPA
import Derived.Test.YtapbmpodimdkpaaBay0
import Derived.Deep.QuietTactic
import Derived.BigQuiet
import Derived.Outline
namespace Go.Proofs.Ytapbmpodimdkpaa
open Go.ChangeShapes Go.WideShapes Go.ChangeAt Go.RowKit

/-- A bay as a value. -/
def vB (b : B4) : Value := .agg #[.bool b.1, .bool b.2.1, .bool b.2.2.1, .bool b.2.2.2]
/-- Which other parts must be open, for each deed. -/
def mustP (d : Nat) : List Nat := if d = 2 then [0] else if d = 3 then [0] else if d = 4 then [0] else if d = 5 then [0, 3] else if d = 7 then [2] else []
theorem must_lt : ∀ d, d < 8 → ∀ p ∈ mustP d, p < 4 := by decide
theorem must_len : ∀ d, d < 8 → (mustP d).length ≤ 2 := by decide
theorem may_must : ∀ a b c e : Bool, ∀ d, d < 8 → mayN (a, b, c, e) d = (!(partF (a, b, c, e) (d / 2) == (d % 2 == 1)) && (mustP d).all fun p => !partF (a, b, c, e) p) := by decide
theorem baySafe_any (a b c e : Bool) (w : World) :
    Calls Try.prog 6 #[.agg #[.bool a, .bool b, .bool c, .bool e]] w fun x w' => x = .returned (.bool (safeF (a, b, c, e))) ∧ Below w.heap.size w w' := by
  go_enter Try.func6, Try.ntmps6
  cases c
  all_goals go_wp2
  all_goals go_ret
  all_goals exact ⟨retB (by simp [safeF]), below_bx _ _⟩
theorem specBaySafe_any (a b c e : Bool) (w : World) :
    Calls Try.prog 4 #[.agg #[.bool a, .bool b, .bool c, .bool e]] w fun x w' => x = .returned (.bool (safeF (a, b, c, e))) ∧ Below w.heap.size w w' := by
  go_enter Try.func4, Try.ntmps4
  cases c
  all_goals go_wp2
  all_goals go_ret
  all_goals exact ⟨retB (by simp [safeF]), below_bx _ _⟩
theorem IsBlk.four {w : World} {g : Nat} {t : TypeId} {u v x y : Value} (h : IsBlk w g t #[u, v, x, y]) : w.cell? ⟨g, 0, none⟩ = some u ∧ w.cell? ⟨g, 1, none⟩ = some v ∧ w.cell? ⟨g, 2, none⟩ = some x ∧ w.cell? ⟨g, 3, none⟩ = some y ∧ w.frozen? ⟨g, 0, none⟩ = false ∧ w.frozen? ⟨g, 1, none⟩ = false ∧ w.frozen? ⟨g, 2, none⟩ = false ∧ w.frozen? ⟨g, 3, none⟩ = false :=
  ⟨h.cell 0, h.cell 1, h.cell 2, h.cell 3, h.thaw 0, h.thaw 1, h.thaw 2, h.thaw 3⟩
theorem IsBlk.put4 {w : World} {g : Nat} {t : TypeId} {u v x y : Value} (h : IsBlk w g t #[u, v, x, y]) (a b c e : Value) : IsBlk ((((w.setCell ⟨g, 0, none⟩ a).setCell ⟨g, 1, none⟩ b).setCell ⟨g, 2, none⟩ c).setCell ⟨g, 3, none⟩ e) g t #[a, b, c, e] := by
  have := (((h.put 0 a).put 1 b).put 2 c).put 3 e
  simpa using this
theorem IsBlk.far4 {w : World} {g q : Nat} {t : TypeId} {cs : Array Value} (h : IsBlk w g t cs) (hne : g ≠ q) (a b c e : Value) : IsBlk ((((w.setCell ⟨q, 0, none⟩ a).setCell ⟨q, 1, none⟩ b).setCell ⟨q, 2, none⟩ c).setCell ⟨q, 3, none⟩ e) g t cs :=
  (((h.far (p := ⟨q, 0, none⟩) hne _).far (p := ⟨q, 1, none⟩) hne _).far (p := ⟨q, 2, none⟩) hne _).far (p := ⟨q, 3, none⟩) hne _
theorem below_four {B g : Nat} {w w' : World} (h : Below B w w') (hg : B ≤ g) (a b c e : Value) : Below B w ((((w'.setCell ⟨g, 0, none⟩ a).setCell ⟨g, 1, none⟩ b).setCell ⟨g, 2, none⟩ c).setCell ⟨g, 3, none⟩ e) := (((h.setCell hg _).setCell hg _).setCell hg _).setCell hg _
theorem part_cell {w : World} {g p : Nat} {t : TypeId} {a b c e : Bool} (h : IsBlk w g t #[.bool a, .bool b, .bool c, .bool e]) (hp : p < 4) : w.cell? ⟨g, p, none⟩ = some (.bool (partF (a, b, c, e) p)) := by
  rw [h.cell]
  rcases p with _ | _ | _ | _ | p <;> first | rfl | omega
theorem put_cell {w : World} {g p : Nat} {t : TypeId} {b : B4} (u : Bool) (h : IsBlk w g t #[.bool b.1, .bool b.2.1, .bool b.2.2.1, .bool b.2.2.2]) (hp : p < 4) :
    IsBlk (w.setCell ⟨g, p, none⟩ (.bool u)) g t #[.bool (setF b p u).1, .bool (setF b p u).2.1, .bool (setF b p u).2.2.1, .bool (setF b p u).2.2.2] := by
  have := h.put p (.bool u)
  rcases p with _ | _ | _ | _ | p <;> first | exact this | omega
end Go.Proofs.Ytapbmpodimdkpaa
