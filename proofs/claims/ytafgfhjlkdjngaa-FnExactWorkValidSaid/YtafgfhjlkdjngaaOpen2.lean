/- Arguments of the laws, opened: a slice of truths, a slice of numbers. -/
import Derived.Test.YtafgfhjlkdjngaaBPA
import Derived.Test.YtafgfhjlkdjngaaChecked
import Derived.OpenShut
import Derived.Deep.Grids
import Derived.ChangeSlices
import Derived.Lib.SmallJoins
import Derived.ProofKit
namespace Go.Proofs.Ytafgfhjlkdjngaa
open Go.ChangeShapes Go.WideShapes Go.ChangeAt Go.RowKit Go.Joins Go.Deep

theorem add_flat' (b off k : Nat) : (Addr.mk b off none).add k = ⟨b, off + k, none⟩ := by
  unfold Addr.add; split
  · simp_all
  · rfl
theorem rowV_of {W : World} {x : Addr} {n c : Nat} {xs : List Value} (hn : xs.length = n) (hl : n ≤ c) (hcell : ∀ i, i < c → ∃ u, W.cell? (x.add i) = some u ∧ (i < n → xs[i]? = some u)) : RowV W (some x) n xs := by
  refine ⟨hn, fun hp => ?_⟩
  obtain ⟨u0, h0, _⟩ := hcell 0 (by omega)
  obtain ⟨b, off, spot⟩ := x
  have hspot : spot = none := by simpa [Addr.add] using World.cell?_spot h0
  subst hspot
  refine ⟨b, off, rfl, ?_, fun k y hk => ?_⟩
  · have := World.block_lt_of_cell? W _ h0
    simpa [Addr.add] using this
  · have hkn : k < n := by have := (List.getElem?_eq_some_iff.1 hk).1; omega
    obtain ⟨u, h1, h2⟩ := hcell k (by omega)
    rw [hk] at h2
    have h3 := h2 hkn
    injection h3 with h3
    rw [add_flat'] at h1
    rw [h1, h3]

theorem openTruths {H : Type} {enc : TypeId × Value → H} {W : World} {A : Option Addr} {n c : Nat} {d : DataW H} {p : List MemPlace}
    (h : DataW.Trod enc Try.prog W 0 (fun _ => true) true 36 (.slice A n c) d p) : n ≤ c ∧ c ≤ 9223372036854775807 ∧ ∃ ts, RowT W A n ts := by
  obtain ⟨fuel, hf⟩ := h
  rcases open_bools Try.underlying36 Try.underlying4 (by kernel_rfl) hf with ⟨hcs, _⟩ | ⟨x, l, c', B, hcs, _, hl, hm, _, hcell⟩
  · simp [Value.cells] at hcs
    obtain ⟨rfl, rfl, rfl⟩ := hcs
    exact ⟨by omega, by omega, [], RowT.none_⟩
  · simp [Value.cells] at hcs
    obtain ⟨rfl, rfl, rfl⟩ := hcs
    refine ⟨hl, by simp only [maxLen] at hm; omega, (List.range n).map B, rowV_of (c := c) (by simp) hl fun i hi => ⟨_, hcell i hi, fun hin => ?_⟩⟩
    rw [List.getElem?_map, List.getElem?_map, List.getElem?_range hin]; rfl

theorem openNums {H : Type} {enc : TypeId × Value → H} {W : World} {A : Option Addr} {n c : Nat} {d : DataW H} {p : List MemPlace}
    (h : DataW.Trod enc Try.prog W 0 (fun _ => true) true 22 (.slice A n c) d p) : n ≤ c ∧ c ≤ 9223372036854775807 ∧ ∃ zs, RowZ W A n zs := by
  obtain ⟨fuel, hf⟩ := h
  rcases open_ints Try.underlying22 Try.underlying3 (by kernel_rfl) hf with ⟨hcs, _⟩ | ⟨x, l, c', zs, hcs, _, hl, hm, hz, _, hcell, _⟩
  · simp [Value.cells] at hcs
    obtain ⟨rfl, rfl, rfl⟩ := hcs
    exact ⟨by omega, by omega, [], RowZ.none_⟩
  · simp [Value.cells] at hcs
    obtain ⟨rfl, rfl, rfl⟩ := hcs
    have hz' : zs.length = c := by simpa using hz
    refine ⟨hl, by simp only [maxLen] at hm; omega, zs.take n, rowV_of (c := c) (by simp; omega) hl fun i hi => ⟨_, hcell i (by omega), fun hin => ?_⟩⟩
    rw [List.getElem?_map, List.getElem?_take_of_lt hin, List.getD_eq_getElem?_getD, List.getElem?_eq_getElem (by omega)]; rfl
end Go.Proofs.Ytafgfhjlkdjngaa
