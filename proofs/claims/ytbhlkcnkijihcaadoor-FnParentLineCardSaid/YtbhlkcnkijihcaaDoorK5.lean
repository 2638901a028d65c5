/- FnReached: the walk. -/
import Derived.Test.YtbhlkcnkijihcaaDoorD3
import Derived.Test.YtbhlkcnkijihcaaDoorD6
import Derived.Test.YtbhlkcnkijihcaaDoorG3
import Derived.Test.YtbhlkcnkijihcaaDoorBCE
import Derived.Test.YtbhlkcnkijihcaaDoorBPC
import Derived.Test.YtbhlkcnkijihcaaDoorBDB
namespace Go.Proofs.YtbhlkcnkijihcaaDoor
open Go.ChangeShapes Go.WideShapes Go.ChangeAt Go.RowKit

theorem hasInt_q (v : Value) (xs : List Int) (x : Int) {t : Bool} (ht : decide (x ∈ xs) = t) (w : World) (hl : xs.length ≤ 1048576) (hr : RowI w v xs) :
    Calls Tryd.prog 15 #[v, .int .i64 x] w fun e w' => e = .returned (.bool t) ∧ w' = w := by
  subst ht
  refine (hasInt_any v xs x w hl hr).mono ?_
  rintro e w' ⟨rfl, rfl⟩
  exact ⟨rfl, rfl⟩
theorem RowI.keepI {w w' : World} {v : Value} {xs : List Int} (h : RowI w v xs) (hb : Below w.heap.size w w') : RowI w' v xs := by
  obtain ⟨A, c, rfl, h⟩ := h
  refine ⟨A, c, rfl, fun hp => ?_⟩
  obtain ⟨g, e, hg, hc⟩ := h hp
  exact ⟨g, e, Nat.lt_of_lt_of_le hg hb.size, fun k x hk => (hb.cell (p := ⟨g, 0 + k, none⟩) hg).trans (hc k x hk)⟩
theorem RowL.at_ {w : World} {A : Option Addr} {n k : Nat} {ls : List L3} (h : RowL w A n ls) (hk : k < n) : ∃ b off l, A = some ⟨b, off, none⟩ ∧ b < w.heap.size ∧ ls[k]? = some l ∧ w.cell? ⟨b, off + k * 3, none⟩ = some (.int .i64 l.1) ∧ w.cell? ⟨b, off + k * 3 + 1, none⟩ = some (.int .i64 l.2.1) ∧ w.cell? ⟨b, off + k * 3 + 2, none⟩ = some (.int .i64 l.2.2) := by
  obtain ⟨b, off, e, hb, hc⟩ := h.2 (by omega)
  have hl : ls[k]? = some (ls[k]'(by have := h.1; omega)) := List.getElem?_eq_getElem _
  exact ⟨b, off, _, e, hb, hl, hc k _ hl⟩

end Go.Proofs.YtbhlkcnkijihcaaDoor
