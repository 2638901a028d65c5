/- Busbars: plain facts of moving a bay and of emptying a bar. No program. -/
import Derived.Test.YtafgfhjlkdjngaaDoorBr0
namespace Go.Proofs.YtafgfhjlkdjngaaDoor

def movB (b : BB) (bay bar : Int) : Bool := brsOk b && inB bay 0 ((b.1.length : Int) - 1) && inB bar 1 2 && !(b.1.getD bay.toNat 0 == bar)
def movF (b : BB) (bay bar : Int) : List Int :=
  if movB b bay bar = true then ((if b.2 = true then [] else [1]) ++ (if b.1.getD bay.toNat 0 = 3 then [] else [4 * bay + 2 * bar + 1])) ++ [4 * bay + 2 * (3 - bar)] ++ (if b.2 = true then [] else [0]) else []
theorem mov_le (b : BB) (bay bar : Int) : (movF b bay bar).length ≤ 4 := by
  rw [movF]; split
  · simp only [List.length_append]
    have h1 : (if b.2 = true then ([] : List Int) else [1]).length ≤ 1 := by split <;> simp
    have h2 : (if b.1.getD bay.toNat 0 = 3 then ([] : List Int) else [4 * bay + 2 * bar + 1]).length ≤ 1 := by split <;> simp
    have h3 : (if b.2 = true then ([] : List Int) else [0]).length ≤ 1 := by split <;> simp
    simp only [List.length_cons, List.length_nil]; omega
  · simp
theorem run_oneR (b : BB) (d : Int) : runR b [d] = (doR b d, (mayR b d).toNat) := by simp [runR]
/-- A deed of a bay's isolator: part 2 * k + j, closed or opened. -/
theorem do_bay {ss : List Int} {k j e : Nat} {s : Int} (h : brsOk (ss, true) = true) (hk : ss[k]? = some s) (hj : j = 1 ∨ j = 2) (he : e < 2) (hp : onP s j = !(e == 1)) (hs : 1 ≤ flipS s j ∧ flipS s j ≤ 3) :
    mayR (ss, true) ((2 * (2 * k + j) + e : Nat) : Int) = true ∧ doR (ss, true) ((2 * (2 * k + j) + e : Nat) : Int) = (ss.set k (flipS s j), true) := by
  have hl := (List.getElem?_eq_some_iff.1 hk).1
  have e1 : (2 * (2 * k + j) + e) / 2 = 2 * k + j := by omega
  have e2 : (2 * (2 * k + j) + e) % 2 = e := by omega
  have e3 : (2 * k + j - 1) / 2 = k := by omega
  have e4 : ss.getD k 0 = s := by rw [List.getD_eq_getElem?_getD, hk]; rfl
  have e5 : onP s (2 * k + j) = onP s j := by simp only [onP, show (2 * k + j) % 2 = j % 2 by omega]
  have ef : flipR (ss, true) (2 * k + j) = (ss.set k (flipS s j), true) := by
    rw [flipR, if_neg (by omega)]
    simp only [e3, e4, flip_par s (show (2 * k + j) % 2 = j % 2 by omega)]
  have hb : brsOk (ss.set k (flipS s j), true) = true := by
    have := brs_len h
    refine brs_mk (by simpa using this.1) (by simpa using this.2) fun i x hi => ?_
    simp only at hi
    rw [List.getElem?_set] at hi
    split at hi
    · injection hi with hi; subst hi
      exact side_mk hs.1 hs.2 (fun h => by cases h)
    · exact brs_side h hi
  have hm : mayR (ss, true) ((2 * (2 * k + j) + e : Nat) : Int) = true := by
    simp only [mayR, Int.toNat_natCast, e1, e2, Bool.and_eq_true, decide_eq_true_eq, Bool.not_eq_true', ef, hb, and_true]
    refine ⟨⟨by omega, by omega⟩, ?_⟩
    rw [partR, if_neg (by omega)]
    simp only [e3, e4, e5, hp]
    cases (e == 1) <;> rfl
  exact ⟨hm, by rw [doR, if_pos hm, Int.toNat_natCast, e1, ef]⟩
theorem brs_true {ss : List Int} {c : Bool} (h : brsOk (ss, c) = true) : brsOk (ss, true) = true := by
  have hl := brs_len h
  refine brs_mk hl.1 hl.2 fun k s hk => ?_
  have := side_in (brs_side h hk)
  exact side_mk this.1 this.2.1 (fun h => by cases h)
/-- With the coupler closed a bay is moved by one or two deeds. -/
theorem mov_true {ss : List Int} {k j : Nat} {s : Int} (h : brsOk (ss, true) = true) (hk : ss[k]? = some s) (hj : j = 1 ∨ j = 2) (hne : s ≠ j) :
    runR (ss, true) ((if s = 3 then [] else [4 * (k : Int) + 2 * (j : Int) + 1]) ++ [4 * (k : Int) + 2 * (3 - (j : Int))]) = ((ss.set k j, true), (if s = 3 then 1 else 2)) := by
  have hin := side_in (brs_side h hk)
  have hlk := (List.getElem?_eq_some_iff.1 hk).1
  have hc : ((2 * (2 * k + j) + 1 : Nat) : Int) = 4 * (k : Int) + 2 * (j : Int) + 1 := by omega
  have ho : ((2 * (2 * k + (3 - j)) + 0 : Nat) : Int) = 4 * (k : Int) + 2 * (3 - (j : Int)) := by omega
  by_cases h3 : s = 3
  · subst h3
    rw [if_pos rfl, if_pos rfl, List.nil_append, run_oneR]
    have hd := do_bay (e := 0) h hk (show 3 - j = 1 ∨ 3 - j = 2 by omega) (by omega) (by rcases hj with rfl | rfl <;> decide) (by rcases hj with rfl | rfl <;> decide)
    rw [ho] at hd
    rw [hd.1, hd.2]
    rcases hj with rfl | rfl <;> rfl
  · rw [if_neg h3, if_neg h3, List.singleton_append, runR, run_oneR]
    have hs : s = 3 - (j : Int) := by omega
    have hf : flipS s j = 3 := by rw [hs]; rcases hj with rfl | rfl <;> decide
    have hd := do_bay (e := 1) h hk hj (by omega) (by rw [hs]; rcases hj with rfl | rfl <;> decide) (by rw [hf]; decide)
    rw [hc, hf] at hd
    rw [hd.1, hd.2]
    have hb : brsOk (ss.set k 3, true) = true := by have := do_ok h (4 * (k : Int) + 2 * (j : Int) + 1); rwa [hd.2] at this
    have hd2 := do_bay (e := 0) hb (show (ss.set k 3)[k]? = some 3 by rw [List.getElem?_set_self hlk]) (show 3 - j = 1 ∨ 3 - j = 2 by omega) (by omega) (by rcases hj with rfl | rfl <;> decide) (by rcases hj with rfl | rfl <;> decide)
    rw [ho, List.set_set] at hd2
    rw [hd2.1, hd2.2]
    rcases hj with rfl | rfl <;> rfl
theorem mov_in {b : BB} {bay bar : Int} (h : movB b bay bar = true) : brsOk b = true ∧ ∃ k j s, bay = (k : Nat) ∧ bar = (j : Nat) ∧ b.1[k]? = some s ∧ (j = 1 ∨ j = 2) ∧ s ≠ j := by
  simp only [movB, inB, Bool.and_eq_true, decide_eq_true_eq, Bool.not_eq_true', beq_eq_false_iff_ne] at h
  obtain ⟨⟨⟨h1, h2, h3⟩, h4, h5⟩, h6⟩ := h
  have hl : bay.toNat < b.1.length := by omega
  refine ⟨h1, bay.toNat, bar.toNat, b.1[bay.toNat], by omega, by omega, List.getElem?_eq_getElem hl, by omega, ?_⟩
  rw [List.getD_eq_getElem?_getD, List.getElem?_eq_getElem hl, Option.getD_some] at h6
  omega
/-- All deeds of a move are done, and move the bay. -/
theorem mov_run {b : BB} {bay bar : Int} (h : movB b bay bar = true) : runR b (movF b bay bar) = ((b.1.set bay.toNat bar, b.2), (movF b bay bar).length) := by
  obtain ⟨hb, k, j, s, rfl, rfl, hk, hj, hne⟩ := mov_in h
  obtain ⟨ss, c⟩ := b
  simp only at hk
  have hm := mov_true (brs_true hb) hk hj hne
  have hlk := (List.getElem?_eq_some_iff.1 hk).1
  have hg : ss.getD k 0 = s := by rw [List.getD_eq_getElem?_getD, hk]; rfl
  rw [movF, if_pos h]
  simp only [Int.toNat_natCast, hg]
  cases c with
  | true =>
    simp only [if_true, List.nil_append, List.append_nil]
    rw [hm]
    split <;> rfl
  | false =>
    have hs3 := (side_in (brs_side hb hk)).2.2 rfl
    simp only [Bool.false_eq_true, if_false]
    rw [if_neg hs3, if_neg hs3] at hm
    have hl := brs_len hb
    have h1 : mayR (ss, false) 1 = true := by
      have ef : flipR (ss, false) 0 = (ss, true) := rfl
      simp only [mayR, Bool.and_eq_true, decide_eq_true_eq, Bool.not_eq_true']
      refine ⟨⟨⟨by decide, by have := hl.1; simp only at this; omega⟩, rfl⟩, ?_⟩
      show brsOk (flipR (ss, false) 0) = true
      rw [ef]; exact brs_true hb
    have d1 : doR (ss, false) 1 = (ss, true) := by rw [doR, if_pos h1]; rfl
    have hbf : brsOk (ss.set k (j : Int), false) = true := by
      refine brs_mk (by simpa using hl.1) (by simpa using hl.2) fun i x hi => ?_
      simp only at hi
      rw [List.getElem?_set] at hi
      split at hi
      · injection hi with hi; subst hi
        exact side_mk (by omega) (by omega) (fun _ => by omega)
      · exact brs_side hb hi
    have h0 : mayR (ss.set k (j : Int), true) 0 = true := by
      have ef : flipR (ss.set k (j : Int), true) 0 = (ss.set k (j : Int), false) := rfl
      simp only [mayR, Bool.and_eq_true, decide_eq_true_eq, Bool.not_eq_true']
      refine ⟨⟨⟨by decide, by have := hl.1; simp only [List.length_set] at this ⊢; omega⟩, rfl⟩, ?_⟩
      show brsOk (flipR (ss.set k (j : Int), true) 0) = true
      rw [ef]; exact hbf
    have d0 : doR (ss.set k (j : Int), true) 0 = (ss.set k (j : Int), false) := by rw [doR, if_pos h0]; rfl
    rw [if_neg hs3]
    have e1 : runR (ss, false) ([1] ++ [4 * (k : Int) + 2 * (j : Int) + 1] ++ [4 * (k : Int) + 2 * (3 - (j : Int))]) = ((ss.set k j, true), 2 + 1) := by
      rw [List.append_assoc, List.singleton_append, runR, d1, h1, hm]; rfl
    rw [run_appR, e1, run_oneR, d0, h0]
    rfl
theorem mov_keep {b : BB} {bay bar : Int} (h : movB b bay bar = false) : movF b bay bar = [] := by rw [movF, if_neg (by rw [h]; simp)]

/-- Emptying a bar: the bars and the deeds after the first bays. -/
def empN (b : BB) (bar : Int) : Nat → BB × List Int
  | 0 => (b, [])
  | k + 1 => ((runR (empN b bar k).1 (movF (empN b bar k).1 k (3 - bar))).1, (empN b bar k).2 ++ movF (empN b bar k).1 k (3 - bar))
def empB (b : BB) (bar : Int) : Bool := brsOk b && inB bar 1 2
def empF (b : BB) (bar : Int) : List Int := if empB b bar = true then (empN b bar b.1.length).2 else []
theorem emp_ok {b : BB} (bar : Int) (h : brsOk b = true) : ∀ k, brsOk (empN b bar k).1 = true
  | 0 => h
  | k + 1 => run_okR _ _ (emp_ok bar h k)
theorem emp_len (b : BB) (bar : Int) : ∀ k, (empN b bar k).1.1.length = b.1.length
  | 0 => rfl
  | k + 1 => (run_lenR _ _).trans (emp_len b bar k)
theorem emp_le (b : BB) (bar : Int) : ∀ k, (empN b bar k).2.length ≤ 4 * k
  | 0 => by simp [empN]
  | k + 1 => by
    have h1 := emp_le b bar k
    have h2 := mov_le (empN b bar k).1 k (3 - bar)
    rw [empN, List.length_append]; omega
theorem empF_le (b : BB) (bar : Int) : (empF b bar).length ≤ 24 := by
  rw [empF]; split
  · rename_i h
    simp only [empB, Bool.and_eq_true] at h
    have h1 := (brs_len h.1).2
    have h2 := emp_le b bar b.1.length
    omega
  · simp
/-- What emptying does: all its deeds are done; the bays that were met are on the other bar alone, the others and the coupler as before. -/
theorem emp_run {b : BB} {bar : Int} (h : empB b bar = true) : ∀ k, k ≤ b.1.length →
    runR b (empN b bar k).2 = ((empN b bar k).1, (empN b bar k).2.length) ∧ (empN b bar k).1.2 = b.2 ∧ ∀ i, (empN b bar k).1.1[i]? = if i < k then some (3 - bar) else b.1[i]?
  | 0, _ => ⟨rfl, rfl, fun i => by simp [empN]⟩
  | k + 1, hk => by
    obtain ⟨h1, h2, h3⟩ := emp_run h k (by omega)
    simp only [empB, inB, Bool.and_eq_true, decide_eq_true_eq] at h
    have hok := emp_ok bar h.1 k
    have hlen := emp_len b bar k
    have he : (empN b bar (k + 1)) = ((runR (empN b bar k).1 (movF (empN b bar k).1 k (3 - bar))).1, (empN b bar k).2 ++ movF (empN b bar k).1 k (3 - bar)) := rfl
    rw [he]
    generalize empN b bar k = x at *
    simp only
    rw [run_appR, h1]
    simp only [List.length_append]
    have hkl : k < x.1.1.length := by omega
    by_cases hm : movB x.1 k (3 - bar) = true
    · have hr := mov_run hm
      rw [hr]
      simp only [Int.toNat_natCast]
      refine ⟨trivial, h2, fun i => ?_⟩
      rw [List.getElem?_set]
      by_cases hi : k = i
      · subst hi; rw [if_pos rfl, if_pos hkl, if_pos (by omega)]
      · rw [if_neg hi, h3 i]
        by_cases hlt : i < k
        · rw [if_pos hlt, if_pos (by omega)]
        · rw [if_neg hlt, if_neg (by omega)]
    · rw [Bool.not_eq_true] at hm
      rw [mov_keep hm]
      simp only [runR, List.length_nil]
      refine ⟨trivial, h2, fun i => ?_⟩
      by_cases hi : k = i
      · subst hi
        rw [if_pos (by omega), List.getElem?_eq_getElem hkl]
        have hb : (x.1.1.getD k 0 == 3 - bar) = true := by
          cases hq : (x.1.1.getD k 0 == 3 - bar) with
          | true => rfl
          | false =>
            have : movB x.1 k (3 - bar) = true := by
              simp only [movB, inB, Bool.and_eq_true, decide_eq_true_eq, Bool.not_eq_true', Int.toNat_natCast]
              exact ⟨⟨⟨hok, by omega, by omega⟩, by omega, by omega⟩, hq⟩
            rw [this] at hm; cases hm
        rw [List.getD_eq_getElem?_getD, List.getElem?_eq_getElem hkl, Option.getD_some, beq_iff_eq] at hb
        rw [hb]
      · rw [h3 i]
        by_cases hlt : i < k
        · rw [if_pos hlt, if_pos (by omega)]
        · rw [if_neg hlt, if_neg (by omega)]
end Go.Proofs.YtafgfhjlkdjngaaDoor
