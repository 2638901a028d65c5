/- Plain words for buses (no program): pairs of numbers, validity, rows of pairs in memory. -/
import Derived.Test.YtobbmnbkjeoheaaDoorBase2
import Derived.Test.YtobbmnbkjeoheaaDoorB2
import Derived.Test.YtobbmnbkjeoheaaDoorSU0
namespace Go.Proofs.YtobbmnbkjeoheaaDoor
open Go.RowKit

abbrev U2 := TU
def busOk (u : U2) : Bool := inB u.1 0 999 && inB u.2 0 999
def busesOk (bs : Int) (ls : List L3) (us : List U2) : Bool := netOk bs ls && decide ((us.length : Int) = bs) && us.all busOk
/-- A network, a state and buses are valid. -/
def okU (bs : Int) (ls : List L3) (m : Nat) (us : List U2) : Bool := stOk bs ls m && busesOk bs ls us

/-- One element of a row is put. -/
theorem putAll_set {α : Type} {f : α → List Value} {m : Nat} (hm : ∀ a, (f a).length = m) {xs : List α} {k : Nat} (hk : k < xs.length) (l : α) : putAll (rowArr f xs) (k * m) (f l) = rowArr f (xs.set k l) := by
  have h := putAll_row hm (xs.take k) (xs.drop (k + 1)) xs[k] l
  have hl : (xs.take k).length = k := by rw [List.length_take]; omega
  rw [hl] at h
  have e1 : xs.take k ++ xs[k] :: xs.drop (k + 1) = xs := by rw [← List.drop_eq_getElem_cons hk, List.take_append_drop]
  have e2 : xs.take k ++ l :: xs.drop (k + 1) = xs.set k l := by rw [List.set_eq_take_append_cons_drop, if_pos hk]
  rw [e1, e2] at h
  exact h
theorem okU_st {bs : Int} {ls : List L3} {m : Nat} {us : List U2} (h : okU bs ls m us = true) : stOk bs ls m = true := by
  simp only [okU, Bool.and_eq_true] at h; exact h.1
theorem okU_bu {bs : Int} {ls : List L3} {m : Nat} {us : List U2} (h : okU bs ls m us = true) : busesOk bs ls us = true := by
  simp only [okU, Bool.and_eq_true] at h; exact h.2
theorem busesOk_len {bs : Int} {ls : List L3} {us : List U2} (h : busesOk bs ls us = true) : (us.length : Int) = bs := by
  simp only [busesOk, Bool.and_eq_true, decide_eq_true_eq] at h; exact h.1.2
theorem busesOk_net {bs : Int} {ls : List L3} {us : List U2} (h : busesOk bs ls us = true) : netOk bs ls = true := by
  simp only [busesOk, Bool.and_eq_true] at h; exact h.1.1
theorem busesOk_at {bs : Int} {ls : List L3} {us : List U2} (h : busesOk bs ls us = true) {k : Nat} {u : U2} (hk : us[k]? = some u) : 0 ≤ u.1 ∧ u.1 ≤ 999 ∧ 0 ≤ u.2 ∧ u.2 ≤ 999 := by
  simp only [busesOk, Bool.and_eq_true] at h
  have := List.all_eq_true.1 h.2 u (List.mem_of_getElem? hk)
  simp only [busOk, inB, Bool.and_eq_true, decide_eq_true_eq] at this
  omega
end Go.Proofs.YtobbmnbkjeoheaaDoor
