/- The laws' argument, opened: a code. -/
import Derived.Test.YtafgfhjlkdjngaaDoorBD1
import Derived.OpenShut
import Derived.ChangeSlices
import Derived.Lib.SmallJoins
namespace Go.Proofs.YtafgfhjlkdjngaaDoor
open Go.ChangeShapes Go.WideShapes Go.ChangeAt Go.RowKit Go.Joins

theorem rowB_of {W : World} {x : Addr} {n c : Nat} {zs : List Int} (hl : n ≤ c) (hz : zs.length = c) (hcell : ∀ i, i < zs.length → W.cell? (x.add i) = some (.int .u8 (zs.getD i 0))) (hwz : ∀ z ∈ zs, (Lit.int .u8 z).wf = true) : RowB W (some x) n (zs.take n) := by
  refine ⟨by rw [List.length_take]; omega, fun hp => ?_, fun z hzm => ?_⟩
  · obtain ⟨b, off, spot⟩ := x
    have h0 := hcell 0 (by omega)
    have hspot : spot = none := by simpa [Addr.add] using World.cell?_spot h0
    subst hspot
    refine ⟨b, off, rfl, ?_, fun k y hk => ?_⟩
    · have := World.block_lt_of_cell? W _ h0
      simpa [Addr.add] using this
    · have hkn : k < n := by
        rw [List.getElem?_take] at hk
        by_cases h : k < n
        · exact h
        · rw [if_neg h] at hk; cases hk
      rw [List.getElem?_take_of_lt hkn] at hk
      have hkl := (List.getElem?_eq_some_iff.1 hk).1
      have h1 := hcell k hkl
      have e : (Addr.mk b off none).add k = ⟨b, off + k, none⟩ := by unfold Addr.add; split <;> simp_all
      rw [e, List.getD_eq_getElem?_getD, hk] at h1
      exact h1
  · have := hwz z (List.mem_of_mem_take hzm)
    exact bounds_u8 this

theorem openCode {H : Type} {enc : TypeId × Value → H} {W : World} {A : Option Addr} {n c : Nat} {d : DataW H} {p : List MemPlace}
    (h : DataW.Trod enc Tryd.prog W 0 (fun _ => true) true 22 (.slice A n c) d p) : n ≤ c ∧ c ≤ 9223372036854775807 ∧ ∃ code, RowB W A n code := by
  obtain ⟨fuel, hf⟩ := h
  rcases open_ints Tryd.underlying22 Tryd.underlying5 (by kernel_rfl) hf with ⟨hcs, _⟩ | ⟨x, l, c', zs, hcs, _, hl, hm, hz, _, hcell, hwz⟩
  · simp [Value.cells] at hcs
    obtain ⟨rfl, rfl, rfl⟩ := hcs
    exact ⟨by omega, by omega, [], rfl, fun h => absurd h (by omega), fun x hx => by simp at hx⟩
  · simp [Value.cells] at hcs
    obtain ⟨rfl, rfl, rfl⟩ := hcs
    exact ⟨hl, by simp only [maxLen] at hm; omega, zs.take n, rowB_of hl (by simpa using hz) hcell hwz⟩
end Go.Proofs.YtafgfhjlkdjngaaDoor
