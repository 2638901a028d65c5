/- Arguments of the laws, opened: the sides of bars, numbers with their bounds. -/
import Derived.Test.YtafgfhjlkdjngaaOpen2
namespace Go.Proofs.Ytafgfhjlkdjngaa
open Go.ChangeShapes Go.WideShapes Go.ChangeAt Go.RowKit Go.Joins Go.Deep

theorem wf_le {n : Int} (h : (Lit.int .i64 n).wf = true) : n ≤ 9223372036854775807 := by
  simp only [Lit.wf, Bool.and_eq_true, decide_eq_true_eq] at h
  have : IntKind.i64.max = 9223372036854775807 := by decide
  omega
theorem openSides {H : Type} {enc : TypeId × Value → H} {w : World} {base : Nat} {spare : Nat → Bool} {held : Bool} {fuel : Nat} {v : Value} {y : DataW H × List MemPlace}
    (h : DataW.trod enc Try.prog w base spare held fuel 22 [v] = some y) : ∃ A n c zs, v = .slice A n c ∧ n ≤ 9223372036854775807 ∧ RowZ w A n zs := by
  rcases open_ints Try.underlying22 Try.underlying3 (by kernel_rfl) h with ⟨hcs, _⟩ | ⟨x, l, c, zs, hcs, _, hl, hm, hz, _, hcell, _⟩
  · simp at hcs
    exact ⟨none, 0, 0, [], hcs, by omega, RowZ.none_⟩
  · simp at hcs
    have hz' : l ≤ zs.length := by rw [hz]; split <;> omega
    refine ⟨some x, l, c, zs.take l, hcs, by simp only [maxLen] at hm; omega, rowV_of (c := l) (by simp; omega) (Nat.le_refl _) fun i hi => ⟨_, hcell i (by omega), fun hin => ?_⟩⟩
    rw [List.getElem?_map, List.getElem?_take_of_lt hin, List.getD_eq_getElem?_getD, List.getElem?_eq_getElem (by omega)]; rfl
theorem openNumsW {H : Type} {enc : TypeId × Value → H} {W : World} {A : Option Addr} {n c : Nat} {d : DataW H} {p : List MemPlace}
    (h : DataW.Trod enc Try.prog W 0 (fun _ => true) true 22 (.slice A n c) d p) : n ≤ c ∧ c ≤ 9223372036854775807 ∧ ∃ zs, RowZ W A n zs ∧ ∀ z ∈ zs, z ≤ 9223372036854775807 := by
  obtain ⟨fuel, hf⟩ := h
  rcases open_ints Try.underlying22 Try.underlying3 (by kernel_rfl) hf with ⟨hcs, _⟩ | ⟨x, l, c', zs, hcs, _, hl, hm, hz, _, hcell, hwf⟩
  · simp [Value.cells] at hcs
    obtain ⟨rfl, rfl, rfl⟩ := hcs
    exact ⟨by omega, by omega, [], RowZ.none_, by simp⟩
  · simp [Value.cells] at hcs
    obtain ⟨rfl, rfl, rfl⟩ := hcs
    have hz' : zs.length = c := by simpa using hz
    refine ⟨hl, by simp only [maxLen] at hm; omega, zs.take n, rowV_of (c := c) (by simp; omega) hl fun i hi => ⟨_, hcell i (by omega), fun hin => ?_⟩, fun z hz => wf_le (hwf z (List.mem_of_mem_take hz))⟩
    rw [List.getElem?_map, List.getElem?_take_of_lt hin, List.getD_eq_getElem?_getD, List.getElem?_eq_getElem (by omega)]; rfl
end Go.Proofs.Ytafgfhjlkdjngaa
