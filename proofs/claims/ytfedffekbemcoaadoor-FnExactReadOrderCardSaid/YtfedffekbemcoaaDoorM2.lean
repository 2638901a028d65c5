/- Plain facts on changes of states (no program): changes made twice, changes that lead from one state to the other. -/
import Derived.Test.YtfedffekbemcoaaDoorBPA
namespace Go.Proofs.YtfedffekbemcoaaDoor

theorem getD_lt {ts : List Bool} {j : Nat} (h : j < ts.length) : ts[j]? = some (ts.getD j false) := by
  rw [List.getD_eq_getElem?_getD, List.getElem?_eq_getElem h]; rfl
theorem ext_getD {us vs : List Bool} (hl : us.length = vs.length) (h : ∀ j, j < us.length → us.getD j false = vs.getD j false) : us = vs := by
  apply List.ext_getElem? 
  intro j
  by_cases hj : j < us.length
  · rw [getD_lt hj, getD_lt (by omega), h j hj]
  · rw [List.getElem?_eq_none (by omega), List.getElem?_eq_none (by omega)]
theorem flip_getD {ts : List Bool} {l : Int} (h : 0 ≤ l ∧ l < ts.length) {j : Nat} (hj : j < ts.length) : (flipAt ts l).getD j false = ((l == (j : Int)) ^^ ts.getD j false) := by
  obtain ⟨k, rfl⟩ := Int.eq_ofNat_of_zero_le h.1
  have hk : k < ts.length := by omega
  rw [flipAt, Int.toNat_natCast]
  by_cases e : k = j
  · subst e
    rw [List.getD_eq_getElem?_getD, List.getElem?_set_self hk]
    simp
  · rw [List.getD_eq_getElem?_getD, List.getElem?_set_ne e, ← List.getD_eq_getElem?_getD]
    have : ((k : Int) == (j : Int)) = false := by simp; omega
    rw [this]; simp

/-- How often a line comes in a list: an odd number of times? -/
def par : List Int → Nat → Bool
  | [], _ => false
  | l :: ls, j => (l == (j : Int)) ^^ par ls j
theorem par_app (xs ys : List Int) (j : Nat) : par (xs ++ ys) j = (par xs j ^^ par ys j) := by
  induction xs with
  | nil => simp [par]
  | cons x xs ih => rw [List.cons_append, par, par, ih, Bool.xor_assoc]
theorem chAll_all {ls : List Int} : ∀ {ts : List Bool}, (∀ l ∈ ls, 0 ≤ l ∧ l < ts.length) → ∃ us, chAll ts ls = some us ∧ us.length = ts.length ∧ ∀ j, j < ts.length → us.getD j false = (par ls j ^^ ts.getD j false) := by
  induction ls with
  | nil => intro ts _; exact ⟨ts, rfl, rfl, fun j _ => by simp [par]⟩
  | cons l ls ih =>
    intro ts h
    have hl := h l (by simp)
    obtain ⟨us, h1, h2, h3⟩ := ih (ts := flipAt ts l) (fun x hx => by rw [flipAt_len]; exact h x (by simp [hx]))
    rw [flipAt_len] at h2
    refine ⟨us, by rw [chAll, if_pos hl]; exact h1, h2, fun j hj => ?_⟩
    rw [h3 j (by rw [flipAt_len]; exact hj), flip_getD hl hj, par, ← Bool.xor_assoc, Bool.xor_comm (par ls j)]
theorem chAll_in {ls : List Int} : ∀ {ts us : List Bool}, chAll ts ls = some us → ∀ l ∈ ls, 0 ≤ l ∧ l < ts.length := by
  induction ls with
  | nil => intro ts us _ l hl; simp at hl
  | cons x ls ih =>
    intro ts us h l hl
    rw [chAll] at h
    by_cases hx : 0 ≤ x ∧ x < ts.length
    · rw [if_pos hx] at h
      rcases List.mem_cons.1 hl with rfl | hl
      · exact hx
      · have := ih h l hl
        rwa [flipAt_len] at this
    · rw [if_neg hx] at h; cases h
theorem chAll_twice {ts us : List Bool} {ls : List Int} (h : chAll ts ls = some us) : chAll us ls = some ts := by
  have hin := chAll_in h
  obtain ⟨us', h1, h2, h3⟩ := chAll_all hin
  rw [h] at h1; injection h1 with h1; subst h1
  obtain ⟨vs, k1, k2, k3⟩ := chAll_all (ls := ls) (ts := us) (fun l hl => by rw [h2]; exact hin l hl)
  rw [k1]
  congr 1
  refine ext_getD (by omega) fun j hj => ?_
  rw [k3 j (by omega), h3 j (by omega), ← Bool.xor_assoc, Bool.xor_self, Bool.false_xor]
theorem par_chTo (a b : List Bool) (k j : Nat) : par (chTo a b k) j = (decide (j < k) && (a.getD j false != b.getD j false)) := by
  induction k with
  | zero => simp [chTo, par]
  | succ k ih =>
    rw [show chTo a b (k + 1) = chTo a b k ++ (if (a.getD k false != b.getD k false) = true then [(k : Int)] else []) by
      rw [chTo, List.range_succ, List.filter_append, List.map_append, List.filter_cons]
      by_cases h : (a.getD k false != b.getD k false) = true
      · rw [if_pos h, if_pos h]; rfl
      · rw [if_neg h, if_neg h]; rfl, par_app, ih]
    by_cases e : j = k
    · subst e
      by_cases h : (a.getD j false != b.getD j false) = true
      · rw [if_pos h, h]; simp [par]
      · rw [if_neg h]; rw [Bool.not_eq_true] at h; rw [h]; simp [par]
    · have e1 : decide (j < k + 1) = decide (j < k) := by simp; omega
      rw [e1]
      have e2 : ((k : Int) == (j : Int)) = false := by simp; omega
      split <;> simp [par, e2]
theorem chTo_mem {a b : List Bool} {k : Nat} {l : Int} (h : l ∈ chTo a b k) : 0 ≤ l ∧ l < k := by
  rw [chTo] at h
  obtain ⟨j, hj, rfl⟩ := List.mem_map.1 h
  have := List.mem_range.1 (List.mem_filter.1 hj).1
  exact ⟨Int.natCast_nonneg _, by simp; omega⟩
theorem chAll_chF {a b : List Bool} (hl : a.length = b.length) : chAll a (chF a b) = some b := by
  rw [chF, if_pos hl]
  obtain ⟨us, h1, h2, h3⟩ := chAll_all (ts := a) (ls := chTo a b a.length) (fun l h => chTo_mem h)
  rw [h1]
  congr 1
  refine ext_getD (by omega) fun j hj => ?_
  rw [h3 j (by omega), par_chTo]
  have : decide (j < a.length) = true := by simp; omega
  rw [this]
  cases a.getD j false <;> cases b.getD j false <;> rfl
theorem chF_comm (a b : List Bool) : chF b a = chF a b := by
  rw [chF, chF]
  by_cases h : a.length = b.length
  · rw [if_pos h, if_pos h.symm, chTo, chTo, h]
    congr 1
    apply List.filter_congr
    intro j _
    cases a.getD j false <;> cases b.getD j false <;> rfl
  · rw [if_neg h, if_neg (fun e => h e.symm)]
theorem chTo_asc (a b : List Bool) (k : Nat) : (chTo a b k).Pairwise (· < ·) := by
  induction k with
  | zero => simp [chTo]
  | succ k ih =>
    rw [show chTo a b (k + 1) = chTo a b k ++ (if (a.getD k false != b.getD k false) = true then [(k : Int)] else []) by
      rw [chTo, List.range_succ, List.filter_append, List.map_append, List.filter_cons]
      by_cases h : (a.getD k false != b.getD k false) = true
      · rw [if_pos h, if_pos h]; rfl
      · rw [if_neg h, if_neg h]; rfl]
    split
    · rw [List.pairwise_append]
      refine ⟨ih, by simp, fun x hx y hy => ?_⟩
      have := (chTo_mem hx).2
      simp at hy; omega
    · simpa using ih
theorem chF_asc (a b : List Bool) : (chF a b).Pairwise (· < ·) := by
  rw [chF]; split
  · exact chTo_asc _ _ _
  · simp
theorem asc_at {zs : List Int} (h : zs.Pairwise (· < ·)) {k : Nat} {x y : Int} (hx : zs[k]? = some x) (hy : zs[k + 1]? = some y) : x < y := by
  obtain ⟨h1, e1⟩ := List.getElem?_eq_some_iff.1 hx
  obtain ⟨h2, e2⟩ := List.getElem?_eq_some_iff.1 hy
  have := List.pairwise_iff_getElem.1 h k (k + 1) h1 h2 (by omega)
  omega

theorem filt_eq {p q : Nat → Bool} : ∀ n, (∀ j, j < n → p j = q j) → ((List.range n).filter q).length = ((List.range n).filter p).length := by
  intro n h
  rw [List.filter_congr (fun j hj => (h j (List.mem_range.1 hj)).symm)]
theorem filt_one {p q : Nat → Bool} {l : Nat} (h : ∀ j, j ≠ l → p j = q j) : ∀ n, ((List.range n).filter q).length ≤ ((List.range n).filter p).length + 1 := by
  intro n
  induction n with
  | zero => simp
  | succ n ih =>
    rw [List.range_succ, List.filter_append, List.filter_append, List.length_append, List.length_append]
    by_cases e : n = l
    · have := filt_eq (p := p) (q := q) n (fun j hj => h j (by omega))
      have h1 : (List.filter q [n]).length ≤ 1 := by simpa using List.length_filter_le q [n]
      omega
    · have : List.filter q [n] = List.filter p [n] := by simp [List.filter_cons, h n e]
      rw [this]; omega
theorem chF_self (ts : List Bool) : chF ts ts = [] := by
  rw [chF, if_pos rfl, chTo]; simp
theorem chF_set (ts us : List Bool) (k : Nat) (t : Bool) (hl : ts.length = us.length) : (chF ts (us.set k t)).length ≤ (chF ts us).length + 1 := by
  rw [chF, chF, if_pos hl, if_pos (by simpa using hl), chTo, chTo, List.length_map, List.length_map]
  refine filt_one (l := k) (fun j hj => ?_) _
  have : (us.set k t).getD j false = us.getD j false := by
    rw [List.getD_eq_getElem?_getD, List.getElem?_set_ne (fun e => hj e.symm), ← List.getD_eq_getElem?_getD]
  rw [this]
theorem chF_few {ls : List Int} : ∀ {ts us : List Bool}, chAll ts ls = some us → (chF ts us).length ≤ ls.length := by
  have gen : ∀ (ls : List Int) (a ts us : List Bool), a.length = ts.length → chAll ts ls = some us → (chF a us).length ≤ (chF a ts).length + ls.length := by
    intro ls
    induction ls with
    | nil => intro a ts us _ h; injection h with h; subst h; simp
    | cons l ls ih =>
      intro a ts us hl h
      rw [chAll] at h
      split at h
      · have h1 := ih a (flipAt ts l) us (by rw [flipAt_len]; exact hl) h
        have h2 := chF_set a ts l.toNat (!ts.getD l.toNat false) hl
        rw [List.length_cons]
        show _ ≤ _
        have h3 : (chF a (flipAt ts l)).length ≤ (chF a ts).length + 1 := h2
        omega
      · cases h
  intro ts us h
  have := gen ls ts ts us rfl h
  rw [chF_self] at this
  simpa using this
end Go.Proofs.YtfedffekbemcoaaDoor
