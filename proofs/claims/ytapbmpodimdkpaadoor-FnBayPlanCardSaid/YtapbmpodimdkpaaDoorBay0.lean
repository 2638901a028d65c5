/- Bays: plain facts. No program. -/
import Derived.Test.YtapbmpodimdkpaaDoorBPA
namespace Go.Proofs.YtapbmpodimdkpaaDoor

/-- A bay: breaker, side of the busbar, side of the line, earth. -/
abbrev B4 := Bool × Bool × Bool × Bool
def safeF (b : B4) : Bool := !b.2.2.1 || !b.2.2.2
def partF (b : B4) (p : Nat) : Bool := if p = 0 then b.1 else if p = 1 then b.2.1 else if p = 2 then b.2.2.1 else b.2.2.2
def setF (b : B4) (p : Nat) (t : Bool) : B4 := if p = 0 then (t, b.2) else if p = 1 then (b.1, t, b.2.2) else if p = 2 then (b.1, b.2.1, t, b.2.2.2) else (b.1, b.2.1, b.2.2.1, t)
/-- A deed in 0..7 that may be done. -/
def mayN (b : B4) (d : Nat) : Bool :=
  !(partF b (d / 2) == (d % 2 == 1)) && !(b.1 && (d / 2 == 1 || d / 2 == 2)) && !(d / 2 == 2 && d % 2 == 1 && b.2.2.2) && !(d / 2 == 3 && d % 2 == 1 && b.2.2.1)
def doN (b : B4) (d : Nat) : B4 := setF b (d / 2) (d % 2 == 1)
def mayF (b : B4) (d : Int) : Bool := decide (0 ≤ d) && decide (d ≤ 7) && mayN b d.toNat
def doF (b : B4) (d : Int) : B4 := if mayF b d = true then doN b d.toNat else b
theorem mayF_nat {b : B4} {d : Nat} (h : d < 8) : mayF b (d : Int) = mayN b d := by
  rw [mayF, decide_eq_true (by omega), decide_eq_true (by omega)]; rfl
theorem mayF_in {b : B4} {d : Int} (h : mayF b d = true) : ∃ k : Nat, d = k ∧ k < 8 ∧ mayN b k = true := by
  simp only [mayF, Bool.and_eq_true, decide_eq_true_eq] at h
  exact ⟨d.toNat, by omega, by omega, h.2⟩
theorem mayF_out {b : B4} {d : Int} (h : ¬ (0 ≤ d ∧ d ≤ 7)) : mayF b d = false := by
  rw [Bool.eq_false_iff]; intro hm; obtain ⟨k, rfl, hk, _⟩ := mayF_in hm; omega
theorem doF_nat {b : B4} {d : Nat} (h : d < 8) (hm : mayN b d = true) : doF b (d : Int) = doN b d := by
  rw [doF, mayF_nat h, if_pos hm]; rfl

/-- All deeds one after the other, up to the first one that may not be done. -/
def runF : B4 → List Int → B4 × Nat
  | b, [] => (b, 0)
  | b, d :: ds => if mayF b d = true then ((runF (doF b d) ds).1, (runF (doF b d) ds).2 + 1) else (b, 0)
theorem runF_le : ∀ (ds : List Int) (b : B4), (runF b ds).2 ≤ ds.length
  | [], _ => Nat.le_refl _
  | d :: ds, b => by
    rw [runF]
    split
    · have := runF_le ds (doF b d); simp; omega
    · simp
theorem runF_app : ∀ (xs ys : List Int) (b c : B4), runF b xs = (c, xs.length) → runF b (xs ++ ys) = ((runF c ys).1, xs.length + (runF c ys).2)
  | [], ys, b, c, h => by
    have : b = c := congrArg Prod.fst h
    subst this; simp
  | d :: ds, ys, b, c, h => by
    rw [List.cons_append, runF]
    rw [runF] at h
    split at h
    · rename_i hm
      have h1 := congrArg Prod.fst h
      have h2 := congrArg Prod.snd h
      have hr : runF (doF b d) ds = (c, ds.length) := Prod.ext h1 (by simpa using h2)
      rw [if_pos hm, runF_app ds ys (doF b d) c hr]
      simp; omega
    · have h2 := congrArg Prod.snd h
      simp at h2
theorem runF_one {b : B4} {d : Int} (h : mayF b d = true) : runF b [d] = (doF b d, 1) := by rw [runF, if_pos h]; rfl
theorem runF_no {b : B4} {d : Int} {ds : List Int} (h : mayF b d = false) : runF b (d :: ds) = (b, 0) := by rw [runF, if_neg (by rw [h]; simp)]
theorem run_step {b x : B4} {ds : List Int} {k : Nat} {d : Int} (hk : ds[k]? = some d) (h : runF b (ds.take k) = (x, k)) (hm : mayF x d = true) : runF b (ds.take (k + 1)) = (doF x d, k + 1) := by
  have hl : k < ds.length := (List.getElem?_eq_some_iff.1 hk).1
  have e : ds.take (k + 1) = ds.take k ++ [d] := by rw [List.take_add_one, hk]; rfl
  have hlen : (ds.take k).length = k := by rw [List.length_take]; omega
  rw [e, runF_app _ _ b x (by rw [h, hlen]), runF_one hm, hlen]
theorem run_stop {b x : B4} {ds : List Int} {k : Nat} {d : Int} (hk : ds[k]? = some d) (h : runF b (ds.take k) = (x, k)) (hm : mayF x d = false) : runF b ds = (x, k) := by
  have hl : k < ds.length := (List.getElem?_eq_some_iff.1 hk).1
  have hd : ds.drop k = d :: ds.drop (k + 1) := by rw [List.drop_eq_getElem_cons hl]; rw [List.getElem?_eq_getElem hl] at hk; injection hk with hk; rw [hk]
  have hlen : (ds.take k).length = k := by rw [List.length_take]; omega
  have e := runF_app (ds.take k) (ds.drop k) b x (by rw [h, hlen])
  rw [List.take_append_drop, hd, runF_no hm, hlen] at e
  exact e
theorem run_end {b x : B4} {ds : List Int} (h : runF b (ds.take ds.length) = (x, ds.length)) : runF b ds = (x, ds.length) := by rwa [List.take_length] at h
theorem run_start (b : B4) (ds : List Int) : runF b (ds.take 0) = (b, 0) := by rw [List.take_zero]; rfl
/-- The deeds that were done, run alone, lead to the same bay. -/
theorem run_take : ∀ (ds : List Int) (b : B4), runF b (ds.take (runF b ds).2) = runF b ds
  | [], _ => rfl
  | d :: ds, b => by
    by_cases hm : mayF b d = true
    · have e : runF b (d :: ds) = ((runF (doF b d) ds).1, (runF (doF b d) ds).2 + 1) := by rw [runF, if_pos hm]
      rw [e]
      rw [List.take_succ_cons, runF, if_pos hm, run_take ds (doF b d)]
    · have e : runF b (d :: ds) = (b, 0) := by rw [runF, if_neg hm]
      rw [e]; rfl
theorem safe_do : ∀ a b c e : Bool, ∀ d, d < 8 → safeF (a, b, c, e) = true → mayN (a, b, c, e) d = true → safeF (doN (a, b, c, e) d) = true := by decide
theorem safe_doF {b : B4} {d : Int} (h : safeF b = true) : safeF (doF b d) = true := by
  by_cases hm : mayF b d = true
  · obtain ⟨k, rfl, hk, h1⟩ := mayF_in hm
    rw [doF_nat hk h1]
    exact safe_do b.1 b.2.1 b.2.2.1 b.2.2.2 k hk h h1
  · rw [doF, if_neg hm]; exact h
theorem safe_run : ∀ (ds : List Int) (b : B4), safeF b = true → safeF (runF b ds).1 = true
  | [], _, h => h
  | d :: ds, b, h => by
    rw [runF]
    split
    · exact safe_run ds (doF b d) (safe_doF h)
    · exact h
/-- The contrary of a deed. -/
def backF (d : Int) : Int := d + 1 - 2 * d.tmod 2
def undoF (ds : List Int) : List Int := (ds.map backF).reverse
theorem back_may : ∀ a b c e : Bool, ∀ d, d < 8 → safeF (a, b, c, e) = true → mayN (a, b, c, e) d = true → mayN (doN (a, b, c, e) d) (d + 1 - 2 * (d % 2)) = true := by decide
theorem back_to : ∀ a b c e : Bool, ∀ d, d < 8 → mayN (a, b, c, e) d = true → doN (doN (a, b, c, e) d) (d + 1 - 2 * (d % 2)) = (a, b, c, e) := by decide
theorem backN {d : Nat} (h : d < 8) : backF (d : Int) = ((d + 1 - 2 * (d % 2) : Nat) : Int) ∧ d + 1 - 2 * (d % 2) < 8 := by
  have : (d : Int).tmod 2 = ((d % 2 : Nat) : Int) := rfl
  rw [backF, this]; omega
theorem back_doF {b : B4} {d : Int} (h : safeF b = true) (hm : mayF b d = true) : mayF (doF b d) (backF d) = true ∧ doF (doF b d) (backF d) = b := by
  obtain ⟨k, rfl, hk, h1⟩ := mayF_in hm
  have h2 := back_may b.1 b.2.1 b.2.2.1 b.2.2.2 k hk h h1
  have h3 := back_to b.1 b.2.1 b.2.2.1 b.2.2.2 k hk h1
  obtain ⟨e, hl⟩ := backN hk
  rw [doF_nat hk h1, e]
  exact ⟨by rw [mayF_nat hl]; exact h2, by rw [doF_nat hl h2]; exact h3⟩
theorem run_undo : ∀ (ds : List Int) (b x : B4), safeF b = true → runF b ds = (x, ds.length) → runF x (undoF ds) = (b, ds.length)
  | [], b, x, _, h => by
    have : b = x := congrArg Prod.fst h
    subst this; rfl
  | d :: ds, b, x, hs, h => by
    rw [runF] at h
    split at h
    · rename_i hm
      have h1 := congrArg Prod.fst h
      have h2 := congrArg Prod.snd h
      have hr : runF (doF b d) ds = (x, ds.length) := Prod.ext h1 (by simpa using h2)
      have ih := run_undo ds (doF b d) x (safe_doF hs) hr
      obtain ⟨m1, m2⟩ := back_doF hs hm
      have hl : (undoF ds).length = ds.length := by simp [undoF]
      rw [undoF, List.map_cons, List.reverse_cons]
      rw [show (ds.map backF).reverse = undoF ds from rfl, runF_app _ _ x (doF b d) (by rw [ih, hl]), runF_one m1, m2, hl]
      simp
    · have h2 := congrArg Prod.snd h
      simp at h2
theorem undo_len (ds : List Int) : (undoF ds).length = ds.length := by simp [undoF]
theorem run_all_in : ∀ (ds : List Int) (b : B4) (k : Nat) (d : Int), k < (runF b ds).2 → ds[k]? = some d → 0 ≤ d ∧ d ≤ 7
  | [], _, k, d, h, _ => by simp [runF] at h
  | a :: ds, b, k, d, h, hk => by
    rw [runF] at h
    split at h
    · rename_i hm
      cases k with
      | zero =>
        simp at hk; subst hk
        obtain ⟨j, rfl, hj, _⟩ := mayF_in hm
        omega
      | succ k => exact run_all_in ds (doF b a) k d (by simpa using h) (by simpa using hk)
    · simp at h

/-- How many deeds lead from one bay to another one at least, if this one is safe. -/
def disF (f t : B4) : Nat :=
  (f.2.1 != t.2.1).toNat + (f.2.2.1 != t.2.2.1).toNat + (f.2.2.2 != t.2.2.2).toNat + if f.2.1 = t.2.1 ∧ f.2.2.1 = t.2.2.1 then (f.1 != t.1).toNat else f.1.toNat + t.1.toNat
theorem dis_le : ∀ a b c e p q r s : Bool, disF (a, b, c, e) (p, q, r, s) ≤ 5 := by decide
theorem dis_zero : ∀ a b c e p q r s : Bool, disF (a, b, c, e) (p, q, r, s) = 0 ↔ (a, b, c, e) = (p, q, r, s) := by decide
set_option maxRecDepth 100000 in
theorem dis_step : ∀ p q r s : Bool, ∀ a b c e : Bool, ∀ d, d < 8 → mayN (a, b, c, e) d = true → disF (a, b, c, e) (p, q, r, s) ≤ disF (doN (a, b, c, e) d) (p, q, r, s) + 1 := by decide +kernel
/-- The least deed that leads nearer. -/
def nearF (f t : B4) : Nat := ((List.range 8).find? fun d => mayN f d && disF (doN f d) t + 1 == disF f t).getD 8
set_option maxRecDepth 100000 in
theorem near_ok : ∀ p q r s : Bool, safeF (p, q, r, s) = true → ∀ a b c e : Bool, (a, b, c, e) ≠ (p, q, r, s) → nearF (a, b, c, e) (p, q, r, s) < 8 := by decide +kernel
theorem find_range {p : Nat → Bool} {n k : Nat} (hk : k < n) (hp : p k = true) (hb : ∀ j, j < k → p j = false) : (List.range n).find? p = some k := by
  rw [List.find?_range_eq_some]
  exact ⟨hp, by simpa using hk, fun j hj => by simp [hb j hj]⟩
theorem near_is {f t : B4} {k : Nat} (hk : k < 8) (hp : (mayN f k && disF (doN f k) t + 1 == disF f t) = true) (hb : ∀ j, j < k → (mayN f j && disF (doN f j) t + 1 == disF f t) = false) : nearF f t = k := by
  rw [nearF, find_range hk hp hb]; rfl
theorem near_spec {f t : B4} (h : nearF f t < 8) : mayN f (nearF f t) = true ∧ disF (doN f (nearF f t)) t + 1 = disF f t ∧ ∀ j, j < nearF f t → (mayN f j && disF (doN f j) t + 1 == disF f t) = false := by
  rw [nearF] at h ⊢
  cases e : (List.range 8).find? fun d => mayN f d && disF (doN f d) t + 1 == disF f t with
  | none => rw [e] at h; simp at h
  | some k =>
    rw [e] at h
    rw [List.find?_range_eq_some] at e
    obtain ⟨e1, _, e2⟩ := e
    rw [Bool.and_eq_true] at e1
    exact ⟨e1.1, by simpa using e1.2, fun j hj => by have := e2 j hj; simpa only [Bool.not_eq_true', Bool.not_eq_true, Bool.not_eq_eq_eq_not, Bool.not_true] using this⟩
def planN : Nat → B4 → B4 → List Int
  | 0, _, _ => []
  | n + 1, f, t => (nearF f t : Int) :: planN n (doN f (nearF f t)) t
def planF (f t : B4) : List Int := if safeF f = true ∧ safeF t = true then planN (disF f t) f t else []
def planB (f t : B4) : Bool := safeF f && safeF t
theorem planN_len : ∀ (n : Nat) (f t : B4), (planN n f t).length = n
  | 0, _, _ => rfl
  | n + 1, f, t => by rw [planN, List.length_cons, planN_len n]
theorem plan_le (f t : B4) : (planF f t).length ≤ 8 := by
  rw [planF]; split
  · rw [planN_len]; have : disF f t ≤ 5 := dis_le f.1 f.2.1 f.2.2.1 f.2.2.2 t.1 t.2.1 t.2.2.1 t.2.2.2; omega
  · simp
theorem near_to {f t : B4} (ht : safeF t = true) (h : f ≠ t) : nearF f t < 8 := near_ok t.1 t.2.1 t.2.2.1 t.2.2.2 ht f.1 f.2.1 f.2.2.1 f.2.2.2 h
theorem dis_iff {f t : B4} : disF f t = 0 ↔ f = t := dis_zero f.1 f.2.1 f.2.2.1 f.2.2.2 t.1 t.2.1 t.2.2.1 t.2.2.2
theorem disF_le (f t : B4) : disF f t ≤ 5 := dis_le f.1 f.2.1 f.2.2.1 f.2.2.2 t.1 t.2.1 t.2.2.1 t.2.2.2
theorem disF_step {f : B4} (t : B4) {d : Nat} (hd : d < 8) (h : mayN f d = true) : disF f t ≤ disF (doN f d) t + 1 := dis_step t.1 t.2.1 t.2.2.1 t.2.2.2 f.1 f.2.1 f.2.2.1 f.2.2.2 d hd h
theorem run_plan : ∀ (n : Nat) (f t : B4), safeF t = true → disF f t = n → runF f (planN n f t) = (t, n)
  | 0, f, t, _, h => by rw [dis_iff] at h; subst h; rfl
  | n + 1, f, t, ht, h => by
    have hne : f ≠ t := fun e => by rw [dis_iff.2 e] at h; cases h
    have hn := near_to ht hne
    obtain ⟨h1, h2, _⟩ := near_spec hn
    rw [planN, runF, mayF_nat hn, if_pos h1, doF_nat hn h1, run_plan n _ t ht (by omega)]
theorem run_far : ∀ (ds : List Int) (f t : B4), (runF f ds).1 = t → disF f t ≤ (runF f ds).2
  | [], f, t, h => by have := dis_iff.2 (show f = t from h); omega
  | d :: ds, f, t, h => by
    rw [runF] at h ⊢
    split at h
    · rename_i hm
      rw [if_pos hm]
      obtain ⟨k, rfl, hk, h1⟩ := mayF_in hm
      have h2 := run_far ds (doF f k) t h
      have h3 := disF_step t hk h1
      rw [doF_nat hk h1] at h2 ⊢
      simp; omega
    · rename_i hm
      rw [if_neg hm]
      have := dis_iff.2 (show f = t from h); simp; omega

/-- What may be done may not be done again. -/
theorem may_twice : ∀ a b c e : Bool, ∀ d, d < 8 → mayN (a, b, c, e) d = true → mayN (doN (a, b, c, e) d) d = false ∧ (a = true → d / 2 ≠ 1 ∧ d / 2 ≠ 2) := by decide

/-- The bay with a number, and the number of a bay. -/
def bayN (n : Nat) : B4 := (n % 2 == 1, n / 2 % 2 == 1, n / 4 % 2 == 1, n / 8 == 1)
def numN (b : B4) : Nat := b.1.toNat + 2 * b.2.1.toNat + 4 * b.2.2.1.toNat + 8 * b.2.2.2.toNat
theorem num_bay : ∀ n, n < 16 → numN (bayN n) = n := by decide
theorem bay_num' : ∀ a b c e : Bool, bayN (numN (a, b, c, e)) = (a, b, c, e) := by decide
theorem num_lt' : ∀ a b c e : Bool, numN (a, b, c, e) < 16 := by decide
theorem bay_num (b : B4) : bayN (numN b) = b := bay_num' b.1 b.2.1 b.2.2.1 b.2.2.2
theorem num_lt (b : B4) : numN b < 16 := num_lt' b.1 b.2.1 b.2.2.1 b.2.2.2
theorem num_eq {b : B4} {n : Nat} (hn : n < 16) (h : bayN n = b) : numN b = n := by rw [← h, num_bay n hn]
theorem num_last {b : B4} (h : ∀ j, j < 15 → bayN j ≠ b) : numN b = 15 := by
  have h1 := num_lt b
  rcases Nat.lt_or_ge (numN b) 15 with h2 | h2
  · exact absurd (bay_num b) (h _ h2)
  · omega

/-- How far each bay is from t, as the model finds it: s whole steps, and k bays of the next one, are done. -/
structure FarI (t : B4) (s k : Nat) (xs : List Int) : Prop where
  len : xs.length = 16
  low : ∀ (i : Nat) (x : Int), xs[i]? = some x → (disF (bayN i) t : Int) ≤ x ∧ x ≤ 99
  done : ∀ (i : Nat) (x : Int), xs[i]? = some x → (disF (bayN i) t < s ∨ (i < k ∧ disF (bayN i) t ≤ s)) → x = disF (bayN i) t
/-- Within the row of bay k: all bays ahead of j, and of j's the deeds ahead of d, are done. -/
structure FarR (t : B4) (s k j d : Nat) (xs : List Int) : Prop where
  inv : FarI t s k xs
  zero : ∀ x : Int, xs[k]? = some x → bayN k = t → x ≤ 0
  row : ∀ x : Int, xs[k]? = some x → ∀ d', d' < 8 → mayN (bayN k) d' = true → (numN (doN (bayN k) d') < j ∨ (numN (doN (bayN k) d') = j ∧ d' < d)) → disF (doN (bayN k) d') t < s → x ≤ disF (doN (bayN k) d') t + 1
theorem FarI.start (t : B4) (m : Nat) (hm : m = 16) : FarI t 0 0 (List.replicate m 99) := by
  subst hm
  refine ⟨by simp, fun i x h => ?_, fun i x h h1 => by omega⟩
  rw [List.getElem?_replicate] at h
  split at h
  · injection h with h; have := disF_le (bayN i) t; omega
  · cases h
theorem FarI.next {t : B4} {s : Nat} {xs : List Int} (h : FarI t s 16 xs) : FarI t (s + 1) 0 xs := by
  refine ⟨h.len, h.low, fun i x hx h1 => ?_⟩
  have hi := (List.getElem?_eq_some_iff.1 hx).1
  rw [h.len] at hi
  exact h.done i x hx (.inr ⟨hi, by omega⟩)
theorem FarI.set0 {t : B4} {s k : Nat} {xs : List Int} (h : FarI t s k xs) (hk : k < 16) (ht : bayN k = t) : FarR t s k 0 0 (xs.set k 0) := by
  have hz : disF (bayN k) t = 0 := dis_iff.2 ht
  have hl := h.len
  refine ⟨⟨by simpa using hl, fun i x hx => ?_, fun i x hx h1 => ?_⟩, fun x hx _ => ?_, fun x hx d' _ _ h1 _ => by omega⟩
  · by_cases hi : k = i
    · subst hi; rw [List.getElem?_set_self (by omega)] at hx; injection hx with hx; omega
    · rw [List.getElem?_set_ne hi] at hx; exact h.low i x hx
  · by_cases hi : k = i
    · subst hi; rw [List.getElem?_set_self (by omega)] at hx; injection hx with hx; omega
    · rw [List.getElem?_set_ne hi] at hx; exact h.done i x hx h1
  · rw [List.getElem?_set_self (by omega)] at hx; injection hx with hx; omega
theorem FarI.keep0 {t : B4} {s k : Nat} {xs : List Int} (h : FarI t s k xs) (ht : bayN k ≠ t) : FarR t s k 0 0 xs :=
  ⟨h, fun _ _ e => absurd e ht, fun x hx d' _ _ h1 _ => by omega⟩
theorem FarR.nextJ {t : B4} {s k j : Nat} {xs : List Int} (h : FarR t s k j 8 xs) : FarR t s k (j + 1) 0 xs :=
  ⟨h.inv, h.zero, fun x hx d' hd hm h1 h2 => h.row x hx d' hd hm (by omega) h2⟩
theorem FarR.miss {t : B4} {s k j d : Nat} {xs : List Int} (h : FarR t s k j d xs) (hd8 : d < 8) (hn : ¬ (mayN (bayN k) d = true ∧ numN (doN (bayN k) d) = j)) : FarR t s k j (d + 1) xs :=
  ⟨h.inv, h.zero, fun x hx d' hd hm h1 h2 => by
    rcases Nat.lt_or_ge d' d with h3 | h3
    · exact h.row x hx d' hd hm (by omega) h2
    · have : d' = d ∨ d < d' := by omega
      rcases this with rfl | h4
      · rcases h1 with h1 | h1
        · exact h.row x hx d' hd hm (.inl h1) h2
        · exact absurd ⟨hm, h1.1⟩ hn
      · exact h.row x hx d' hd hm (by omega) h2⟩
theorem do_ne' : ∀ k, k < 16 → ∀ d, d < 8 → mayN (bayN k) d = true → numN (doN (bayN k) d) ≠ k := by decide +kernel
theorem FarR.hit {t : B4} {s k j d : Nat} {xs : List Int} {x y : Int} (h : FarR t s k j d xs) (hk : k < 16) (hd8 : d < 8) (hm : mayN (bayN k) d = true) (hj : numN (doN (bayN k) d) = j) (hx : xs[k]? = some x) (hy : xs[j]? = some y) :
    FarR t s k j (d + 1) (xs.set k (min x (y + 1))) := by
  have hl := h.inv.len
  have hb : bayN j = doN (bayN k) d := by rw [← hj, bay_num]
  have hst := disF_step t hd8 hm
  have lx := h.inv.low k x hx
  have ly := h.inv.low j y hy
  rw [hb] at ly
  have hkk : k < xs.length := by omega
  refine ⟨⟨by simpa using hl, fun i z hz => ?_, fun i z hz h1 => ?_⟩, fun z hz e => ?_, fun z hz d' hd' hm' h1 h2 => ?_⟩
  · by_cases hi : k = i
    · subst hi; rw [List.getElem?_set_self hkk] at hz; injection hz with hz; omega
    · rw [List.getElem?_set_ne hi] at hz; exact h.inv.low i z hz
  · by_cases hi : k = i
    · subst hi; rw [List.getElem?_set_self hkk] at hz; injection hz with hz
      have := h.inv.done k x hx (by omega)
      omega
    · rw [List.getElem?_set_ne hi] at hz; exact h.inv.done i z hz h1
  · rw [List.getElem?_set_self hkk] at hz; injection hz with hz
    have := h.zero x hx e
    omega
  · rw [List.getElem?_set_self hkk] at hz; injection hz with hz
    have hor : (numN (doN (bayN k) d') < j ∨ numN (doN (bayN k) d') = j ∧ d' < d) ∨ d' = d := by omega
    rcases hor with h3 | rfl
    · have := h.row x hx d' hd' hm' h3 h2
      omega
    · have := h.inv.done j y hy (.inl (by rw [hb]; exact h2))
      rw [hb] at this
      omega
theorem FarR.done {t : B4} {s k : Nat} {xs : List Int} (ht : safeF t = true) (h : FarR t s k 16 0 xs) : FarI t s (k + 1) xs := by
  refine ⟨h.inv.len, h.inv.low, fun i x hx h1 => ?_⟩
  rcases h1 with h1 | ⟨h1, h2⟩
  · exact h.inv.done i x hx (.inl h1)
  · rcases Nat.lt_or_ge i k with h3 | h3
    · exact h.inv.done i x hx (.inr ⟨h3, h2⟩)
    · obtain rfl : i = k := by omega
      have lx := h.inv.low i x hx
      by_cases he : bayN i = t
      · have := h.zero x hx he
        have := dis_iff.2 he
        omega
      · have hn := near_to ht he
        obtain ⟨n1, n2, _⟩ := near_spec hn
        have := h.row x hx (nearF (bayN i) t) hn n1 (.inl (num_lt _)) (by omega)
        omega
/-- In the end every bay has its distance. -/
theorem FarI.at_ {t : B4} {xs : List Int} (h : FarI t 16 0 xs) {i : Nat} (hi : i < 16) : xs[i]? = some (disF (bayN i) t : Int) := by
  have hl := h.len
  have hx : xs[i]? = some xs[i] := List.getElem?_eq_getElem (by omega)
  rw [hx, h.done i _ hx (.inl (by have := disF_le (bayN i) t; omega))]
end Go.Proofs.YtapbmpodimdkpaaDoor
