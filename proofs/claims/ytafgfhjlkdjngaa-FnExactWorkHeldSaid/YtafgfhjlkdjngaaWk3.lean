/- Permits, plain facts of valid work that is looked through (no program). -/
import Derived.Test.YtafgfhjlkdjngaaWk0
namespace Go.Proofs.Ytafgfhjlkdjngaa

theorem getD_some {α : Type} {ts : List α} {k : Nat} {t d : α} (h : ts[k]? = some t) : ts.getD k d = t := by rw [List.getD_eq_getElem?_getD, h]; rfl
theorem wk_sizes {a e : List Bool} {ps : List (Int × Int)} (h : wkOk (a, e, ps) = true) : 1 ≤ a.length ∧ a.length ≤ 10 ∧ a.length = e.length ∧ ps.length ≤ 6 := by
  have := wkOk_iff.1 h; exact ⟨this.n1, this.n10, this.ae, this.p6⟩
theorem wk_no_len {a e : List Bool} {ps : List (Int × Int)} (h : ¬ (1 ≤ a.length ∧ a.length ≤ 10 ∧ a.length = e.length ∧ ps.length ≤ 6)) : wkOk (a, e, ps) = false := by
  cases hc : wkOk (a, e, ps) with
  | false => rfl
  | true => exact absurd (wk_sizes hc) h
theorem wk_no_apart {a e : List Bool} {ps : List (Int × Int)} {k : Nat} (ha : a[k]? = some true) (he : e[k]? = some true) : wkOk (a, e, ps) = false := by
  cases hc : wkOk (a, e, ps) with
  | false => rfl
  | true =>
    have hk : k < a.length := (List.getElem?_eq_some_iff.1 ha).1
    have := (wkOk_iff.1 hc).apart k hk (getD_some ha)
    rw [getD_some he] at this; cases this
theorem wk_no_per {a e : List Bool} {ps : List (Int × Int)} {k : Nat} {p : Int × Int} (hp : ps[k]? = some p) (h : perOk a.length e p = false) : wkOk (a, e, ps) = false := by
  cases hc : wkOk (a, e, ps) with
  | false => rfl
  | true =>
    have := perOk_iff.2 ((wkOk_iff.1 hc).per p (List.mem_of_getElem? hp))
    rw [h] at this; cases this
theorem mem_take_dup {α : Type} {ps : List α} {k : Nat} {p : α} (hp : ps[k]? = some p) (h : p ∈ ps.take k) : ¬ ps.Nodup := by
  intro hn
  obtain ⟨j, hj, he⟩ := List.getElem_of_mem h
  have hj2 : j < k := by rw [List.length_take] at hj; omega
  rw [List.getElem_take] at he
  obtain ⟨hk, hke⟩ := List.getElem?_eq_some_iff.1 hp
  exact absurd ((List.getElem_inj hn).1 (he.trans hke.symm)) (by omega)
theorem wk_no_dup {a e : List Bool} {ps : List (Int × Int)} {k : Nat} {p : Int × Int} (hp : ps[k]? = some p) (h : p ∈ ps.take k) : wkOk (a, e, ps) = false := by
  cases hc : wkOk (a, e, ps) with
  | false => rfl
  | true => exact absurd (wkOk_iff.1 hc).nd (mem_take_dup hp h)
/-- What is known when the first k lines, the first k permits have been looked through. -/
def linesTo (a e : List Bool) (k : Nat) : Prop := ∀ j, j < k → a.getD j false = true → e.getD j false = false
def persTo (n : Nat) (e : List Bool) (ps : List (Int × Int)) (k : Nat) : Prop := (∀ p ∈ ps.take k, perOk n e p = true) ∧ (ps.take k).Nodup
theorem linesTo_zero (a e : List Bool) : linesTo a e 0 := fun j hj => by omega
theorem linesTo_succ {a e : List Bool} {k : Nat} {x y : Bool} (h : linesTo a e k) (ha : a[k]? = some x) (he : e[k]? = some y) (hxy : (x && y) = false) : linesTo a e (k + 1) := by
  intro j hj hj2
  rcases Nat.lt_or_ge j k with h1 | h1
  · exact h j h1 hj2
  · obtain rfl : j = k := by omega
    rw [getD_some ha] at hj2; subst hj2
    rw [getD_some he]; simpa using hxy
theorem persTo_zero (n : Nat) (e : List Bool) (ps : List (Int × Int)) : persTo n e ps 0 := ⟨fun p hp => by simp at hp, by simp⟩
theorem persTo_succ {n : Nat} {e : List Bool} {ps : List (Int × Int)} {k : Nat} {p : Int × Int} (h : persTo n e ps k) (hp : ps[k]? = some p) (hok : perOk n e p = true) (hn : p ∉ ps.take k) : persTo n e ps (k + 1) := by
  rw [persTo, List.take_add_one, hp, Option.toList_some]
  refine ⟨fun x hx => ?_, ?_⟩
  · rcases List.mem_append.1 hx with hx | hx
    · exact h.1 x hx
    · simp at hx; subst hx; exact hok
  · rw [List.nodup_append]
    refine ⟨h.2, by simp, fun x hx y hy e => ?_⟩
    simp at hy; subst hy; subst e; exact hn hx
theorem wk_yes {a e : List Bool} {ps : List (Int × Int)} (h : 1 ≤ a.length ∧ a.length ≤ 10 ∧ a.length = e.length ∧ ps.length ≤ 6) (hl : linesTo a e a.length) (hp : persTo a.length e ps ps.length) : wkOk (a, e, ps) = true := by
  rw [wkOk_iff]
  rw [persTo, List.take_length] at hp
  exact ⟨h.1, h.2.1, h.2.2.1, h.2.2.2, hl, fun p hp2 => perOk_iff.1 (hp.1 p hp2), hp.2⟩

/-! Where a permit stands -/
def findW (ps : List (Int × Int)) (p : Int × Int) : Int := if p ∈ ps then (ps.idxOf p : Int) else -1
theorem findW_at {ps : List (Int × Int)} {p : Int × Int} {k : Nat} (hk : ps[k]? = some p) (hno : ∀ j, j < k → ∀ y, ps[j]? = some y → y ≠ p) : findW ps p = k := by
  have hm : p ∈ ps := List.mem_of_getElem? hk
  obtain ⟨hkl, hke⟩ := List.getElem?_eq_some_iff.1 hk
  have hl : ps.idxOf p < ps.length := List.idxOf_lt_length_iff.2 hm
  rw [findW, if_pos hm]
  congr 1
  rcases Nat.lt_trichotomy (ps.idxOf p) k with h | h | h
  · exact absurd (List.getElem_idxOf hl) (hno _ h _ (List.getElem?_eq_getElem hl))
  · exact h
  · have := List.not_of_lt_findIdx (p := (· == p)) (xs := ps) (i := k) h
    rw [hke] at this; simp at this
theorem findW_none {ps : List (Int × Int)} {p : Int × Int} (hno : ∀ j, j < ps.length → ∀ y, ps[j]? = some y → y ≠ p) : findW ps p = -1 := by
  rw [findW, if_neg]
  intro hm
  obtain ⟨j, hj, he⟩ := List.getElem_of_mem hm
  exact hno j hj _ (List.getElem?_eq_getElem hj) he
theorem findW_mem {ps : List (Int × Int)} {p : Int × Int} : (0 ≤ findW ps p) ↔ p ∈ ps := by
  rw [findW]; split
  · rename_i h; exact ⟨fun _ => h, fun _ => by omega⟩
  · rename_i h; exact ⟨fun h2 => by omega, fun h2 => absurd h2 h⟩
theorem findW_lt {ps : List (Int × Int)} {p : Int × Int} {k : Nat} (hp : ps[k]? = some p) : findW ps p < k ↔ p ∈ ps.take k := by
  have hm : p ∈ ps := List.mem_of_getElem? hp
  have hl : ps.idxOf p < ps.length := List.idxOf_lt_length_iff.2 hm
  rw [findW, if_pos hm]
  constructor
  · intro h
    have h2 : ps.idxOf p < k := by omega
    have : (ps.take k)[ps.idxOf p]? = some p := by rw [List.getElem?_take_of_lt h2, List.getElem?_eq_getElem hl, List.getElem_idxOf hl]
    exact List.mem_of_getElem? this
  · intro h
    obtain ⟨j, hj, he⟩ := List.getElem_of_mem h
    have hj2 : j < k := by rw [List.length_take] at hj; omega
    rw [List.getElem_take] at he
    rcases Nat.lt_or_ge (ps.idxOf p) k with h1 | h1
    · omega
    · have hlt : j < ps.idxOf p := by omega
      have := List.not_of_lt_findIdx (p := (· == p)) (xs := ps) (i := j) hlt
      rw [he] at this; simp at this
theorem findW_cut {ps : List (Int × Int)} {p : Int × Int} {k : Nat} (h : findW ps p = (k : Int)) : k < ps.length ∧ ps.erase p = ps.take k ++ ps.drop (k + 1) := by
  have hm : p ∈ ps := findW_mem.1 (by omega)
  have hl : ps.idxOf p < ps.length := List.idxOf_lt_length_iff.2 hm
  rw [findW, if_pos hm] at h
  obtain rfl : ps.idxOf p = k := by omega
  refine ⟨hl, ?_⟩
  rw [List.erase_eq_eraseIdx_of_idxOf rfl, List.eraseIdx_eq_take_drop_succ]

/-! Who has a permit, by one permit after the other -/
theorem heldL_take {ps : List (Int × Int)} {k : Nat} {p : Int × Int} (z : Int) (h : ps[k]? = some p) : heldL (ps.take (k + 1)) z = if p.2 = z then heldL (ps.take k) z ++ [p.1] else heldL (ps.take k) z := by
  rw [heldL, List.take_add_one, h, Option.toList_some, List.filter_append, List.map_append, List.filter_cons]
  by_cases hz : p.2 = z
  · rw [if_pos hz, if_pos (by simpa using hz)]; simp [heldL]
  · rw [if_neg hz, if_neg (by simpa using hz)]; simp [heldL]
theorem heldL_len (ps : List (Int × Int)) (z : Int) : (heldL ps z).length ≤ ps.length := by rw [heldL, List.length_map]; exact List.length_filter_le _ _

/-! The rules -/
/-- What a line of valid work is: 0 off, 1 on, 2 earthed. -/
def lineW (a e : List Bool) (j : Nat) : Int := if a.getD j false = true then 1 else if e.getD j false = true then 2 else 0
def fromW (k : Int) : Int := if k = 1 then 1 else if k = 3 ∨ k = 4 ∨ k = 5 then 2 else 0
def toW (k : Int) : Int := if k = 0 then 1 else if k = 2 ∨ k = 4 ∨ k = 5 then 2 else 0
def askW (k : Int) : Int := if k = 3 then 1 else if k = 4 then 2 else if k = 5 then 3 else 0
/-- The permits behind a deed that asks something of them; whether they are as it asks. -/
def askB (ps : List (Int × Int)) (at_ who asks : Int) : Bool :=
  if asks = 0 then true
  else if asks = 1 then (heldL ps at_).isEmpty
  else if asks = 2 then (decide ((who, at_) ∉ ps) && (decide (0 ≤ who) && decide (who ≤ 9))) && decide (ps.length < 6)
  else if asks = 3 then decide ((who, at_) ∈ ps)
  else false
def askF (ps : List (Int × Int)) (at_ who asks : Int) : List (Int × Int) :=
  if askB ps at_ who asks = true then (if asks = 2 then ps ++ [(who, at_)] else if asks = 3 then ps.erase (who, at_) else ps) else []
theorem askF_len (ps : List (Int × Int)) (at_ who asks : Int) : (askF ps at_ who asks).length ≤ ps.length + 1 := by
  rw [askF]; split
  · split
    · simp
    · split
      · exact Nat.le_trans List.length_erase_le (by omega)
      · omega
  · simp
theorem set_same {ts : List Bool} {j : Nat} {t : Bool} (h : j < ts.length → ts.getD j false = t) : ts.set j t = ts := by
  apply ext_getDW (by simp)
  intro k hk
  rw [List.length_set] at hk
  by_cases hj : j < ts.length
  · rw [getD_set hj]; split
    · rename_i e; subst e; exact (h hj).symm
    · rfl
  · rw [List.set_eq_of_length_le (by omega)]
/-- The table says what may be done and what comes of it. -/
theorem rule_may {a e : List Bool} {ps : List (Int × Int)} {k z x : Int} {j : Nat} (h : WkOk a e ps) (hk0 : 0 ≤ k) (hk5 : k ≤ 5) (hz : z = (j : Int)) (hj : j < a.length) : canW (a, e, ps) (k, z, x) = (askB ps z x (askW k) && decide (lineW a e j = fromW k)) := by
  subst hz
  have hi : inW a.length (j : Int) = true := by simp [inW]; omega
  have hap := h.apart j hj
  have hpe : (x, (j : Int)) ∈ ps → e.getD j false = true := fun hm => by have := (h.per _ hm).2.2.2.2; simpa using this
  rw [canW, hi, Bool.true_and]
  rcases (show k = 0 ∨ k = 1 ∨ k = 2 ∨ k = 3 ∨ k = 4 ∨ k = 5 by omega) with rfl | rfl | rfl | rfl | rfl | rfl
  all_goals
    simp only [mayW, atW, Int.toNat_natCast, askW, fromW, lineW, askB]
    simp only [if_true, if_false, Int.reduceEq, or_true, true_or, or_false, false_or, or_self]
    revert hap hpe
    cases a.getD j false <;> cases e.getD j false <;> simp
  all_goals ac_rfl
theorem rule_do {a e : List Bool} {ps : List (Int × Int)} {k z x : Int} {j : Nat} (h : WkOk a e ps) (hk0 : 0 ≤ k) (hk5 : k ≤ 5) (hz : z = (j : Int)) (hj : j < a.length) (hc : canW (a, e, ps) (k, z, x) = true) : doW (a, e, ps) (k, z, x) = (a.set j (toW k == 1), e.set j (toW k == 2), askF ps z x (askW k)) := by
  have hb := rule_may (x := x) h hk0 hk5 hz hj
  rw [hc] at hb
  have hb2 := hb.symm
  rw [Bool.and_eq_true, decide_eq_true_eq] at hb2
  obtain ⟨hask, hline⟩ := hb2
  subst hz
  rw [askF, if_pos hask]
  have hap := h.apart j hj
  have hje : j < e.length := by have := h.ae; omega
  have sa : ∀ t, a.getD j false = t → a.set j t = a := fun t ht => set_same fun _ => ht
  have se : ∀ t, e.getD j false = t → e.set j t = e := fun t ht => set_same fun _ => ht
  rcases (show k = 0 ∨ k = 1 ∨ k = 2 ∨ k = 3 ∨ k = 4 ∨ k = 5 by omega) with rfl | rfl | rfl | rfl | rfl | rfl
  all_goals
    simp only [fromW, lineW] at hline
    simp only [if_true, if_false, Int.reduceEq, or_true, true_or, or_false, false_or, or_self] at hline
    simp only [doW, toW, askW, Int.toNat_natCast]
    simp only [if_true, if_false, Int.reduceEq, or_true, true_or, or_false, false_or, or_self]
    revert hline hap
    rcases Bool.eq_false_or_eq_true (a.getD j false) with ha | ha <;> rcases Bool.eq_false_or_eq_true (e.getD j false) with he | he <;> simp only [ha, he] <;> intro h1 h2
  all_goals first
    | (exfalso; revert h1 h2; simp; done)
    | (simp [sa _ ha, se _ he]; done)
end Go.Proofs.Ytafgfhjlkdjngaa
