/- FnOtherEnd: ends are each other's other ends: the drawing, the search in a list, the walk. -/
import Derived.Test.YtbhlkcnkijihcaaDoorD5
import Derived.Test.YtbhlkcnkijihcaaDoorBCC
namespace Go.Proofs.YtbhlkcnkijihcaaDoor
open Go.ChangeShapes Go.WideShapes Go.ChangeAt Go.RowKit

theorem hasInt_any (v : Value) (xs : List Int) (n : Int) (w : World) (hl : xs.length ≤ 1048576) (hr : RowI w v xs) :
    Calls Tryd.prog 15 #[v, .int .i64 n] w fun e w' => e = .returned (.bool (decide (n ∈ xs))) ∧ w = w' := by
  obtain ⟨A, c, rfl, HA⟩ := hr
  generalize hn' : xs.length = m at *
  have HL := Lib.hid hn'
  have HC := Lib.hid HA
  clear HA hn'
  go_enter Tryd.func15, Tryd.ntmps15
  go_wp2
  go_loop [5] (fun i => ∃ k : Nat, k ≤ m ∧ i = .int .i64 k ∧ ∀ j, j < k → ∀ x, xs[j]? = some x → x ≠ n) (fun i => m - (intOf i).toNat)
  case atStart => exact ⟨0, by omega, rfl, by intro j hj; omega⟩
  case round =>
    obtain ⟨k, hk, rfl, hno⟩ := hrel
    have HN := Lib.hid hno
    clear hno
    by_cases hlt : k < m
    · obtain ⟨g, rfl, hb, HD⟩ := HC.out (by omega)
      have hkl : xs[k]? = some (xs[k]'(by have := HL.out; omega)) := List.getElem?_eq_getElem _
      generalize (xs[k]'(by have := HL.out; omega)) = x at hkl
      have g0 := HD k x hkl
      simp only [Nat.zero_add] at g0
      have HK := Lib.hid hkl
      clear hkl HD
      by_cases hx : x = n
      · subst hx
        go_wp2
        go_ret
        exact ⟨retB (by rw [eq_comm, decide_eq_true_eq]; exact List.mem_of_getElem? HK.out), rfl⟩
      · have hxb : (x == n) = false := by simpa using hx
        go_wp2
        go_round
        case rel =>
          refine ⟨k + 1, by omega, by go_num, fun j hj y hy => ?_⟩
          rcases Nat.lt_or_ge j k with h1 | h1
          · exact HN.out j h1 y hy
          · obtain rfl : j = k := by omega
            rw [HK.out] at hy; cases hy; exact hx
        case measure => simp [intOf]; omega
    · go_wp2
      go_ret
      obtain rfl : k = m := by omega
      refine ⟨retB ?_, rfl⟩
      rw [eq_comm, decide_eq_false_iff_not]
      intro hm
      obtain ⟨j, hj, he⟩ := List.getElem_of_mem hm
      exact HN.out j (by have := HL.out; omega) _ (List.getElem?_eq_getElem hj) he

theorem mem_linesAt {bs : Int} {ls : List L3} {bus line : Int} : line ∈ linesAtF bs ls bus ↔ netOk bs ls = true ∧ ∃ k l, line = (k : Nat) ∧ ls[k]? = some l ∧ endsB l bus = true := by
  rw [linesAtF]
  by_cases hv : netOk bs ls = true
  · rw [if_pos hv, atTo]
    simp only [List.mem_map, List.mem_filter, List.mem_range]
    constructor
    · rintro ⟨k, ⟨hk, he⟩, rfl⟩
      rw [List.getD_eq_getElem?_getD, List.getElem?_eq_getElem hk] at he
      exact ⟨hv, k, ls[k], rfl, List.getElem?_eq_getElem hk, he⟩
    · rintro ⟨_, k, l, rfl, hk, he⟩
      have hlt := (List.getElem?_eq_some_iff.1 hk).1
      refine ⟨k, ⟨hlt, ?_⟩, rfl⟩
      rw [List.getD_eq_getElem?_getD, hk]; exact he
  · rw [if_neg hv]; simp [hv]
/-- What OtherEnd says: no end, and the line is not at the bus; or the other end of a line at both. -/
theorem other_cases (bs : Int) (ls : List L3) (line bus : Int) :
    (otherF bs ls line bus = -1 ∧ ¬ line ∈ linesAtF bs ls bus) ∨
    ∃ x : Int, otherF bs ls line bus = x ∧ 0 ≤ x ∧ ¬ x = bus ∧ otherF bs ls line x = bus ∧ line ∈ linesAtF bs ls x ∧ line ∈ linesAtF bs ls bus := by
  by_cases h : netOk bs ls = true ∧ 0 ≤ line ∧ line < ls.length
  · obtain ⟨hv, h0, h1⟩ := h
    obtain ⟨k, rfl⟩ := Int.eq_ofNat_of_zero_le h0
    have hlt : k < ls.length := by omega
    have hk : ls[k]? = some ls[k] := List.getElem?_eq_getElem hlt
    generalize ls[k] = l at hk
    have hok := netOk_line hv hk
    have hne := lineOk_ne hok
    simp only [lineOk, inB, Bool.and_eq_true, decide_eq_true_eq] at hok
    have hmem : ∀ b, endsB l b = true → ((k : Nat) : Int) ∈ linesAtF bs ls b := fun b hb => mem_linesAt.2 ⟨hv, k, l, rfl, hk, hb⟩
    by_cases e1 : l.1 = bus
    · refine .inr ⟨l.2.1, by rw [other_of hv hk, if_pos e1], by omega, by omega, ?_, hmem _ (by simp [endsB]), hmem _ (by simp [endsB, e1])⟩
      rw [other_of hv hk, if_neg hne, if_pos rfl, e1]
    · by_cases e2 : l.2.1 = bus
      · refine .inr ⟨l.1, by rw [other_of hv hk, if_neg e1, if_pos e2], by omega, by omega, ?_, hmem _ (by simp [endsB]), hmem _ (by simp [endsB, e2])⟩
        rw [other_of hv hk, if_pos rfl, e2]
      · refine .inl ⟨by rw [other_of hv hk, if_neg e1, if_neg e2], fun hm => ?_⟩
        obtain ⟨_, k', l', he, hk', hends⟩ := mem_linesAt.1 hm
        have : k = k' := by omega
        subst this
        rw [hk] at hk'; cases hk'
        simp [endsB, e1, e2] at hends
  · refine .inl ⟨by rw [otherF, if_neg h], fun hm => h ?_⟩
    obtain ⟨hv, k, l, rfl, hk, _⟩ := mem_linesAt.1 hm
    have := (List.getElem?_eq_some_iff.1 hk).1
    exact ⟨hv, by omega, by omega⟩
end Go.Proofs.YtbhlkcnkijihcaaDoor
