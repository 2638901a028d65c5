/- FnLineBetween: lines have no direction: the walk. -/
import Derived.Test.YtbhlkcnkijihcaaDoorD3
import Derived.Test.YtbhlkcnkijihcaaDoorBDB
import Derived.OpenShut
namespace Go.Proofs.YtbhlkcnkijihcaaDoor
open Go.ChangeShapes Go.WideShapes Go.ChangeAt Go.RowKit

theorem rowB_of_ints {W : World} {x : Addr} {n c : Nat} {zs : List Int} (hl : n ≤ c) (hz : zs.length = c) (hcell : ∀ i, i < zs.length → W.cell? (x.add i) = some (.int .u8 (zs.getD i 0))) (hwz : ∀ z ∈ zs, (Lit.int .u8 z).wf = true) : RowB W (some x) n (zs.take n) := by
  refine ⟨by rw [List.length_take]; omega, fun hp => ?_, fun z hzm => ?_⟩
  · obtain ⟨b, off, spot⟩ := x
    have h0 := hcell 0 (by omega)
    have hspot : spot = none := by simpa [Addr.add] using World.cell?_spot h0
    subst hspot
    refine ⟨b, off, rfl, ?_, fun k y hk => ?_⟩
    · have := World.block_lt_of_cell? W _ h0
      simpa [Addr.add] using this
    · have hkn : k < n := by
        rw [List.getElem?_take] at hk
        by_cases h : k < n
        · exact h
        · rw [if_neg h] at hk; cases hk
      rw [List.getElem?_take_of_lt hkn] at hk
      have hkl := (List.getElem?_eq_some_iff.1 hk).1
      have h1 := hcell k hkl
      have e : (Addr.mk b off none).add k = ⟨b, off + k, none⟩ := by unfold Addr.add; split <;> simp_all
      rw [e, List.getD_eq_getElem?_getD, hk] at h1
      exact h1
  · have := hwz z (List.mem_of_mem_take hzm)
    exact bounds_u8 this

theorem joins_comm (a b : Int) (l : L3) : joins a b l = joins b a l := by
  rw [Bool.eq_iff_iff]; simp only [joins, Bool.or_eq_true, Bool.and_eq_true, beq_iff_eq]; omega
theorem between_comm (bs : Int) (ls : List L3) (a b : Int) : betweenF bs ls b a = betweenF bs ls a b := by
  rw [betweenF, betweenF, show joins b a = joins a b from funext fun l => (joins_comm a b l).symm]
theorem between_cases (bs : Int) (ls : List L3) (a b : Int) : betweenF bs ls a b = -1 ∨ ∃ (k : Nat) (l : L3), betweenF bs ls a b = (k : Int) ∧ netOk bs ls = true ∧ ls[k]? = some l ∧ joins a b l = true ∧ ∀ j, j < k → ∀ x, ls[j]? = some x → joins a b x = false := by
  rw [betweenF]
  by_cases hv : netOk bs ls = true
  · rw [if_pos hv, firstF]
    rcases hf : ls.findIdx? (joins a b) with _ | k
    · exact .inl rfl
    · rw [List.findIdx?_eq_some_iff_getElem] at hf
      obtain ⟨hlt, hp, hb⟩ := hf
      refine .inr ⟨k, ls[k], rfl, hv, List.getElem?_eq_getElem hlt, hp, fun j hj x hx => ?_⟩
      have := hb j hj
      obtain ⟨hjl, he⟩ := List.getElem?_eq_some_iff.1 hx
      rw [he] at this; simpa using this
  · rw [if_neg hv]; exact .inl rfl
theorem other_of {bs : Int} {ls : List L3} {k : Nat} {l : L3} (hv : netOk bs ls = true) (hk : ls[k]? = some l) (a : Int) : otherF bs ls (k : Int) a = if l.1 = a then l.2.1 else if l.2.1 = a then l.1 else -1 := by
  have hlt := (List.getElem?_eq_some_iff.1 hk).1
  have hgd : ls.getD k (0, 0, 0) = l := by rw [List.getD_eq_getElem?_getD, hk]; rfl
  simp only [otherF, Int.toNat_natCast, hgd]
  rw [if_pos ⟨hv, by omega, by omega⟩]
theorem other_joins {bs : Int} {ls : List L3} {k : Nat} {l : L3} (hv : netOk bs ls = true) (hk : ls[k]? = some l) {a b : Int} (hj : joins a b l = true) : otherF bs ls (k : Int) a = b := by
  have hne := lineOk_ne (netOk_line hv hk)
  rw [other_of hv hk]
  simp only [joins, Bool.or_eq_true, Bool.and_eq_true, beq_iff_eq] at hj
  split
  · omega
  · split <;> omega
theorem other_not {bs : Int} {ls : List L3} {k : Nat} {l : L3} (hv : netOk bs ls = true) (hk : ls[k]? = some l) {a b : Int} (hb : 0 ≤ b) (hj : joins a b l = false) : (otherF bs ls (k : Int) a == b) = false := by
  rw [other_of hv hk, beq_eq_false_iff_ne]
  have hj' : ¬ (joins a b l = true) := by rw [hj]; simp
  simp only [joins, Bool.or_eq_true, Bool.and_eq_true, beq_iff_eq] at hj'
  split
  · omega
  · split <;> omega

end Go.Proofs.YtbhlkcnkijihcaaDoor
