/- Bays: plain facts on a search over all bays. No program. -/
import Derived.Test.YtapbmpodimdkpaaDoorBay0
namespace Go.Proofs.YtapbmpodimdkpaaDoor

/-- The least deed after which so many are left, as a map of bays tells. -/
def towF (M : B4 → Option Nat) (b : B4) (m : Nat) : Int := match (List.range 8).find? fun d => mayN b d && M (doN b d) == some m with | some d => (d : Int) | none => -1
theorem tow_is {M : B4 → Option Nat} {b : B4} {m k : Nat} (hk : k < 8) (hp : (mayN b k && M (doN b k) == some m) = true) (hb : ∀ j, j < k → (mayN b j && M (doN b j) == some m) = false) : towF M b m = k := by
  rw [towF, find_range hk hp hb]
theorem tow_none {M : B4 → Option Nat} {b : B4} {m : Nat} (hb : ∀ j, j < 8 → (mayN b j && M (doN b j) == some m) = false) : towF M b m = -1 := by
  rw [towF, List.find?_eq_none.2 fun x hx => by rw [hb x (by simpa using hx)]; simp]
theorem tow_pos {M : B4 → Option Nat} {b : B4} {m : Nat} : 0 ≤ towF M b m ↔ ∃ d, d < 8 ∧ mayN b d = true ∧ M (doN b d) = some m := by
  rw [towF]
  cases e : (List.range 8).find? fun d => mayN b d && M (doN b d) == some m with
  | none =>
    rw [List.find?_eq_none] at e
    refine ⟨fun h => by simp at h, fun ⟨d, hd, h1, h2⟩ => absurd (e d (by simpa using hd)) (by simp [h1, h2])⟩
  | some d =>
    refine ⟨fun _ => ?_, fun _ => by simp⟩
    have h1 := List.mem_of_find?_eq_some e
    have h2 := List.find?_some e
    simp only [Bool.and_eq_true, beq_iff_eq] at h2
    exact ⟨d, by simpa using h1, h2.1, h2.2⟩
theorem tow_upto {M : B4 → Option Nat} {b : B4} {m k : Nat} (h : ∀ j, j < k → (mayN b j && M (doN b j) == some m) = false) (hk : (mayN b k && M (doN b k) == some m) = false) : ∀ j, j < k + 1 → (mayN b j && M (doN b j) == some m) = false := fun j hj => by
  rcases Nat.lt_or_ge j k with h1 | h1
  · exact h j h1
  · obtain rfl : j = k := by omega
    exact hk

/-- What is known when all bays of distance n, and of the next distance those ahead of number k, are found. -/
def leftF (t : B4) (n k : Nat) (b : B4) : Option Nat := if disF b t ≤ n ∨ (disF b t = n + 1 ∧ numN b < k) then some (disF b t) else none
theorem left_start (t : B4) : leftF t 0 0 = fun b => if b = t then some 0 else none := by
  funext b
  rw [leftF]
  by_cases h : b = t
  · have := dis_iff.2 h
    rw [if_pos (by omega), if_pos h, this]
  · have : disF b t ≠ 0 := fun e => h (dis_iff.1 e)
    rw [if_neg (by omega), if_neg h]
theorem left_pass (t : B4) (n : Nat) : leftF t n 16 = leftF t (n + 1) 0 := by
  funext b
  have := num_lt b
  rw [leftF, leftF]
  by_cases h : disF b t ≤ n + 1
  · rw [if_pos (by omega), if_pos (by omega)]
  · rw [if_neg (by omega), if_neg (by omega)]
theorem left_some {t b : B4} {n k m : Nat} (h : leftF t n k b = some m) : m = disF b t := by
  rw [leftF] at h
  split at h
  · injection h with h; exact h.symm
  · cases h
theorem left_at {t : B4} {n k : Nat} (_hk : k < 16) (h : leftF t n k (bayN k) = none) : n < disF (bayN k) t := by
  rw [leftF] at h
  split at h
  · cases h
  · omega
/-- A bay is found in the pass in which it is one deed away from those that were found before. -/
theorem left_found {t : B4} {n k : Nat} (ht : safeF t = true) (hk : k < 16) (h : leftF t n k (bayN k) = none) : 0 ≤ towF (leftF t n k) (bayN k) n ↔ disF (bayN k) t = n + 1 := by
  have h1 := left_at hk h
  rw [tow_pos]
  refine ⟨fun ⟨d, hd, hm, he⟩ => ?_, fun he => ?_⟩
  · have h2 := left_some he
    have h3 := disF_step t hd hm
    omega
  · have hne : bayN k ≠ t := fun e => by rw [dis_iff.2 e] at he; omega
    have hn := near_to ht hne
    obtain ⟨h2, h3, _⟩ := near_spec hn
    refine ⟨_, hn, h2, ?_⟩
    rw [leftF, if_pos (by omega)]
    congr 1
    omega
theorem left_put {t : B4} {n k : Nat} (hk : k < 16) (he : disF (bayN k) t = n + 1) : leftF t n (k + 1) = fun b => if b = bayN k then some (n + 1) else leftF t n k b := by
  funext b
  by_cases hb : b = bayN k
  · rw [if_pos hb, hb, leftF, if_pos (.inr ⟨he, by rw [num_bay k hk]; omega⟩), he]
  · have hne : numN b ≠ k := fun e => hb (by rw [← e, bay_num])
    rw [if_neg hb, leftF, leftF]
    by_cases h1 : disF b t ≤ n ∨ (disF b t = n + 1 ∧ numN b < k)
    · rw [if_pos h1, if_pos (by omega)]
    · rw [if_neg h1, if_neg (by omega)]
theorem left_skip {t : B4} {n k : Nat} (hk : k < 16) (he : leftF t n k (bayN k) ≠ none ∨ disF (bayN k) t ≠ n + 1) : leftF t n (k + 1) = leftF t n k := by
  funext b
  by_cases hb : b = bayN k
  · rw [hb]
    have hn := num_bay k hk
    rw [leftF, leftF] at *
    by_cases h1 : disF (bayN k) t ≤ n ∨ (disF (bayN k) t = n + 1 ∧ numN (bayN k) < k)
    · rw [if_pos h1, if_pos (by omega)]
    · rw [if_neg h1] at he ⊢
      rw [if_neg]
      rcases he with he | he
      · exact absurd rfl he
      · omega
  · have hne : numN b ≠ k := fun e => hb (by rw [← e, bay_num])
    rw [leftF, leftF]
    by_cases h1 : disF b t ≤ n ∨ (disF b t = n + 1 ∧ numN b < k)
    · rw [if_pos h1, if_pos (by omega)]
    · rw [if_neg h1, if_neg (by omega)]
theorem no_gap {t : B4} {n : Nat} (ht : safeF t = true) (h : ∀ b, disF b t ≠ n) : ∀ (m : Nat) (b : B4), disF b t = m → m < n
  | m, b, e => by
    rcases Nat.lt_or_ge m n with h1 | h1
    · exact h1
    · have h2 := h b
      cases m with
      | zero => omega
      | succ m =>
        have hne : b ≠ t := fun e2 => by rw [dis_iff.2 e2] at e; cases e
        obtain ⟨_, h4, _⟩ := near_spec (near_to ht hne)
        have := no_gap ht h m (doN b (nearF b t)) (by omega)
        omega
/-- In the end every bay is known. -/
theorem left_all {t : B4} {n : Nat} (ht : safeF t = true) (h : ∀ b, disF b t ≠ n) (b : B4) : leftF t n 0 b = some (disF b t) := by
  have := no_gap ht h _ b rfl
  rw [leftF, if_pos (by omega)]
theorem tow_near {M : B4 → Option Nat} {f t : B4} (hM : ∀ b, M b = some (disF b t)) (ht : safeF t = true) {m : Nat} (hm : disF f t = m + 1) : towF M f m = nearF f t := by
  have hne : f ≠ t := fun e => by rw [dis_iff.2 e] at hm; cases hm
  have hn := near_to ht hne
  obtain ⟨h1, h2, h3⟩ := near_spec hn
  refine tow_is hn (by rw [h1, hM]; simp; omega) fun j hj => ?_
  have := h3 j hj
  rw [hM]
  cases hmj : mayN f j with
  | false => rfl
  | true =>
    rw [hmj] at this
    simp only [Bool.true_and, beq_eq_false_iff_ne] at this ⊢
    intro e
    injection e with e
    omega
end Go.Proofs.YtapbmpodimdkpaaDoor
