/- Texts joined: FnLineBetween: lines have no direction: the walk; FnOtherEnd: ends are each other's other ends: the drawing, the search in a list, the walk. -/
import Derived.Test.YtpmkeagdoehbhaaDoorD3
import Derived.Test.YtpmkeagdoehbhaaDoorBDB
import Derived.OpenShut
import Derived.Test.YtpmkeagdoehbhaaDoorBCC

/- FnLineBetween: lines have no direction: the walk. -/
namespace Go.Proofs.YtpmkeagdoehbhaaDoor
open Go.ChangeShapes Go.WideShapes Go.ChangeAt Go.RowKit

theorem rowB_of_ints {W : World} {x : Addr} {n c : Nat} {zs : List Int} (hl : n ≤ c) (hz : zs.length = c) (hcell : ∀ i, i < zs.length → W.cell? (x.add i) = some (.int .u8 (zs.getD i 0))) (hwz : ∀ z ∈ zs, (Lit.int .u8 z).wf = true) : RowB W (some x) n (zs.take n) := by
  refine ⟨by rw [List.length_take]; omega, fun hp => ?_, fun z hzm => ?_⟩
  · obtain ⟨b, off, spot⟩ := x
    have h0 := hcell 0 (by omega)
    have hspot : spot = none := by simpa [Addr.add] using World.cell?_spot h0
    subst hspot
    refine ⟨b, off, rfl, ?_, fun k y hk => ?_⟩
    · have := World.block_lt_of_cell? W _ h0
      simpa [Addr.add] using this
    · have hkn : k < n := by
        rw [List.getElem?_take] at hk
        by_cases h : k < n
        · exact h
        · rw [if_neg h] at hk; cases hk
      rw [List.getElem?_take_of_lt hkn] at hk
      have hkl := (List.getElem?_eq_some_iff.1 hk).1
      have h1 := hcell k hkl
      have e : (Addr.mk b off none).add k = ⟨b, off + k, none⟩ := by unfold Addr.add; split <;> simp_all
      rw [e, List.getD_eq_getElem?_getD, hk] at h1
      exact h1
  · have := hwz z (List.mem_of_mem_take hzm)
    exact bounds_u8 this

theorem joins_comm (a b : Int) (l : L3) : joins a b l = joins b a l := by
  rw [Bool.eq_iff_iff]; simp only [joins, Bool.or_eq_true, Bool.and_eq_true, beq_iff_eq]; omega
theorem between_comm (bs : Int) (ls : List L3) (a b : Int) : betweenF bs ls b a = betweenF bs ls a b := by
  rw [betweenF, betweenF, show joins b a = joins a b from funext fun l => (joins_comm a b l).symm]
theorem between_cases (bs : Int) (ls : List L3) (a b : Int) : betweenF bs ls a b = -1 ∨ ∃ (k : Nat) (l : L3), betweenF bs ls a b = (k : Int) ∧ netOk bs ls = true ∧ ls[k]? = some l ∧ joins a b l = true ∧ ∀ j, j < k → ∀ x, ls[j]? = some x → joins a b x = false := by
  rw [betweenF]
  by_cases hv : netOk bs ls = true
  · rw [if_pos hv, firstF]
    rcases hf : ls.findIdx? (joins a b) with _ | k
    · exact .inl rfl
    · rw [List.findIdx?_eq_some_iff_getElem] at hf
      obtain ⟨hlt, hp, hb⟩ := hf
      refine .inr ⟨k, ls[k], rfl, hv, List.getElem?_eq_getElem hlt, hp, fun j hj x hx => ?_⟩
      have := hb j hj
      obtain ⟨hjl, he⟩ := List.getElem?_eq_some_iff.1 hx
      rw [he] at this; simpa using this
  · rw [if_neg hv]; exact .inl rfl
theorem other_of {bs : Int} {ls : List L3} {k : Nat} {l : L3} (hv : netOk bs ls = true) (hk : ls[k]? = some l) (a : Int) : otherF bs ls (k : Int) a = if l.1 = a then l.2.1 else if l.2.1 = a then l.1 else -1 := by
  have hlt := (List.getElem?_eq_some_iff.1 hk).1
  have hgd : ls.getD k (0, 0, 0) = l := by rw [List.getD_eq_getElem?_getD, hk]; rfl
  simp only [otherF, Int.toNat_natCast, hgd]
  rw [if_pos ⟨hv, by omega, by omega⟩]
theorem other_joins {bs : Int} {ls : List L3} {k : Nat} {l : L3} (hv : netOk bs ls = true) (hk : ls[k]? = some l) {a b : Int} (hj : joins a b l = true) : otherF bs ls (k : Int) a = b := by
  have hne := lineOk_ne (netOk_line hv hk)
  rw [other_of hv hk]
  simp only [joins, Bool.or_eq_true, Bool.and_eq_true, beq_iff_eq] at hj
  split
  · omega
  · split <;> omega
theorem other_not {bs : Int} {ls : List L3} {k : Nat} {l : L3} (hv : netOk bs ls = true) (hk : ls[k]? = some l) {a b : Int} (hb : 0 ≤ b) (hj : joins a b l = false) : (otherF bs ls (k : Int) a == b) = false := by
  rw [other_of hv hk, beq_eq_false_iff_ne]
  have hj' : ¬ (joins a b l = true) := by rw [hj]; simp
  simp only [joins, Bool.or_eq_true, Bool.and_eq_true, beq_iff_eq] at hj'
  split
  · omega
  · split <;> omega

end Go.Proofs.YtpmkeagdoehbhaaDoor

/- FnOtherEnd: ends are each other's other ends: the drawing, the search in a list, the walk. -/
namespace Go.Proofs.YtpmkeagdoehbhaaDoor
open Go.ChangeShapes Go.WideShapes Go.ChangeAt Go.RowKit

theorem mem_linesAt {bs : Int} {ls : List L3} {bus line : Int} : line ∈ linesAtF bs ls bus ↔ netOk bs ls = true ∧ ∃ k l, line = (k : Nat) ∧ ls[k]? = some l ∧ endsB l bus = true := by
  rw [linesAtF]
  by_cases hv : netOk bs ls = true
  · rw [if_pos hv, atTo]
    simp only [List.mem_map, List.mem_filter, List.mem_range]
    constructor
    · rintro ⟨k, ⟨hk, he⟩, rfl⟩
      rw [List.getD_eq_getElem?_getD, List.getElem?_eq_getElem hk] at he
      exact ⟨hv, k, ls[k], rfl, List.getElem?_eq_getElem hk, he⟩
    · rintro ⟨_, k, l, rfl, hk, he⟩
      have hlt := (List.getElem?_eq_some_iff.1 hk).1
      refine ⟨k, ⟨hlt, ?_⟩, rfl⟩
      rw [List.getD_eq_getElem?_getD, hk]; exact he
  · rw [if_neg hv]; simp [hv]
/-- What OtherEnd says: no end, and the line is not at the bus; or the other end of a line at both. -/
theorem other_cases (bs : Int) (ls : List L3) (line bus : Int) :
    (otherF bs ls line bus = -1 ∧ ¬ line ∈ linesAtF bs ls bus) ∨
    ∃ x : Int, otherF bs ls line bus = x ∧ 0 ≤ x ∧ ¬ x = bus ∧ otherF bs ls line x = bus ∧ line ∈ linesAtF bs ls x ∧ line ∈ linesAtF bs ls bus := by
  by_cases h : netOk bs ls = true ∧ 0 ≤ line ∧ line < ls.length
  · obtain ⟨hv, h0, h1⟩ := h
    obtain ⟨k, rfl⟩ := Int.eq_ofNat_of_zero_le h0
    have hlt : k < ls.length := by omega
    have hk : ls[k]? = some ls[k] := List.getElem?_eq_getElem hlt
    generalize ls[k] = l at hk
    have hok := netOk_line hv hk
    have hne := lineOk_ne hok
    simp only [lineOk, inB, Bool.and_eq_true, decide_eq_true_eq] at hok
    have hmem : ∀ b, endsB l b = true → ((k : Nat) : Int) ∈ linesAtF bs ls b := fun b hb => mem_linesAt.2 ⟨hv, k, l, rfl, hk, hb⟩
    by_cases e1 : l.1 = bus
    · refine .inr ⟨l.2.1, by rw [other_of hv hk, if_pos e1], by omega, by omega, ?_, hmem _ (by simp [endsB]), hmem _ (by simp [endsB, e1])⟩
      rw [other_of hv hk, if_neg hne, if_pos rfl, e1]
    · by_cases e2 : l.2.1 = bus
      · refine .inr ⟨l.1, by rw [other_of hv hk, if_neg e1, if_pos e2], by omega, by omega, ?_, hmem _ (by simp [endsB]), hmem _ (by simp [endsB, e2])⟩
        rw [other_of hv hk, if_pos rfl, e2]
      · refine .inl ⟨by rw [other_of hv hk, if_neg e1, if_neg e2], fun hm => ?_⟩
        obtain ⟨_, k', l', he, hk', hends⟩ := mem_linesAt.1 hm
        have : k = k' := by omega
        subst this
        rw [hk] at hk'; cases hk'
        simp [endsB, e1, e2] at hends
  · refine .inl ⟨by rw [otherF, if_neg h], fun hm => h ?_⟩
    obtain ⟨hv, k, l, rfl, hk, _⟩ := mem_linesAt.1 hm
    have := (List.getElem?_eq_some_iff.1 hk).1
    exact ⟨hv, by omega, by omega⟩
end Go.Proofs.YtpmkeagdoehbhaaDoor
