/- Busbars: plain facts. No program. -/
import Derived.Test.YtafgfhjlkdjngaaDoorBPA
namespace Go.Proofs.YtafgfhjlkdjngaaDoor

/-- Bars: the sides of the bays, and whether the coupler is closed. -/
abbrev BB := List Int × Bool
def sideOk (c : Bool) (s : Int) : Bool := inB s 1 3 && !(s == 3 && !c)
def brsOk (b : BB) : Bool := inB (b.1.length : Int) 1 6 && b.1.all (sideOk b.2)
/-- Whether the isolator p is closed; part 0 is the coupler. -/
def onP (s : Int) (p : Nat) : Bool := if p % 2 = 1 then decide (s % 2 = 1) else decide (s / 2 % 2 = 1)
def flipS (s : Int) (p : Nat) : Int := if p % 2 = 1 then (if s % 2 = 1 then s - 1 else s + 1) else (if s / 2 % 2 = 1 then s - 2 else s + 2)
def partR (b : BB) (p : Nat) : Bool := if p = 0 then b.2 else onP (b.1.getD ((p - 1) / 2) 0) p
def flipR (b : BB) (p : Nat) : BB := if p = 0 then (b.1, !b.2) else (b.1.set ((p - 1) / 2) (flipS (b.1.getD ((p - 1) / 2) 0) p), b.2)
def mayR (b : BB) (d : Int) : Bool := decide (0 ≤ d) && decide (d < 4 * (b.1.length : Int) + 2) && !(partR b (d.toNat / 2) == (d.toNat % 2 == 1)) && brsOk (flipR b (d.toNat / 2))
def doR (b : BB) (d : Int) : BB := if mayR b d = true then flipR b (d.toNat / 2) else b
def runR : BB → List Int → BB × Nat
  | b, [] => (b, 0)
  | b, d :: ds => ((runR (doR b d) ds).1, (runR (doR b d) ds).2 + (mayR b d).toNat)

theorem brs_len {b : BB} (h : brsOk b = true) : 1 ≤ b.1.length ∧ b.1.length ≤ 6 := by
  simp only [brsOk, inB, Bool.and_eq_true, decide_eq_true_eq] at h; omega
theorem side_in {c : Bool} {s : Int} (h : sideOk c s = true) : 1 ≤ s ∧ s ≤ 3 ∧ (c = false → s ≠ 3) := by
  simp only [sideOk, inB, Bool.and_eq_true, decide_eq_true_eq, Bool.not_eq_true', Bool.and_eq_false_imp, beq_iff_eq] at h
  exact ⟨h.1.1, h.1.2, fun hc e => by have := h.2 e; rw [hc] at this; simp at this⟩
theorem side_mk {c : Bool} {s : Int} (h1 : 1 ≤ s) (h2 : s ≤ 3) (h3 : c = false → s ≠ 3) : sideOk c s = true := by
  simp only [sideOk, inB, Bool.and_eq_true, decide_eq_true_eq, Bool.not_eq_true', Bool.and_eq_false_imp, beq_iff_eq]
  exact ⟨⟨h1, h2⟩, fun e => by cases c with | true => rfl | false => exact absurd e (h3 rfl)⟩
theorem brs_side {b : BB} (h : brsOk b = true) {k : Nat} {s : Int} (hk : b.1[k]? = some s) : sideOk b.2 s = true := by
  simp only [brsOk, Bool.and_eq_true] at h; exact List.all_eq_true.1 h.2 s (List.mem_of_getElem? hk)
theorem brs_in {b : BB} (h : brsOk b = true) : ∀ s ∈ b.1, 0 ≤ s ∧ s ≤ 3 := fun s hs => by
  simp only [brsOk, Bool.and_eq_true] at h
  have := side_in (List.all_eq_true.1 h.2 s hs); omega
theorem brs_mk {b : BB} (h1 : 1 ≤ b.1.length) (h2 : b.1.length ≤ 6) (h : ∀ (k : Nat) (s : Int), b.1[k]? = some s → sideOk b.2 s = true) : brsOk b = true := by
  simp only [brsOk, inB, Bool.and_eq_true, decide_eq_true_eq]
  refine ⟨by omega, List.all_eq_true.2 fun s hs => ?_⟩
  obtain ⟨k, hk, rfl⟩ := List.getElem_of_mem hs
  exact h k _ (List.getElem?_eq_getElem hk)
theorem flip_len (b : BB) (p : Nat) : (flipR b p).1.length = b.1.length := by rw [flipR]; split <;> simp
theorem do_len (b : BB) (d : Int) : (doR b d).1.length = b.1.length := by rw [doR]; split; exact flip_len _ _; rfl
theorem do_ok {b : BB} (h : brsOk b = true) (d : Int) : brsOk (doR b d) = true := by
  rw [doR]; split
  · rename_i hm; simp only [mayR, Bool.and_eq_true] at hm; exact hm.2
  · exact h
theorem run_okR : ∀ (ds : List Int) (b : BB), brsOk b = true → brsOk (runR b ds).1 = true
  | [], _, h => h
  | d :: ds, b, h => run_okR ds (doR b d) (do_ok h d)
theorem run_lenR : ∀ (ds : List Int) (b : BB), (runR b ds).1.1.length = b.1.length
  | [], _ => rfl
  | d :: ds, b => (run_lenR ds (doR b d)).trans (do_len b d)
theorem run_leR : ∀ (ds : List Int) (b : BB), (runR b ds).2 ≤ ds.length
  | [], _ => Nat.le_refl _
  | d :: ds, b => by
    have := run_leR ds (doR b d)
    have h1 : (mayR b d).toNat ≤ 1 := by cases mayR b d <;> simp
    rw [runR, List.length_cons]; simp only; omega
theorem run_appR : ∀ (xs ys : List Int) (b : BB), runR b (xs ++ ys) = ((runR (runR b xs).1 ys).1, (runR b xs).2 + (runR (runR b xs).1 ys).2)
  | [], ys, b => by simp [runR]
  | d :: ds, ys, b => by
    rw [List.cons_append, runR, run_appR ds ys (doR b d), runR]
    simp only [Prod.mk.injEq, true_and]; omega
theorem run_nextR {b x : BB} {q k : Nat} {ds : List Int} {z : Int} (h : runR b (ds.take k) = (x, q)) (hz : ds[k]? = some z) : runR b (ds.take (k + 1)) = (doR x z, q + (mayR x z).toNat) := by
  rw [List.take_add_one, hz, Option.toList_some, run_appR, h]
  simp [runR]

/-! The contrary of a deed -/
theorem flipS_twice (s : Int) (p : Nat) : flipS (flipS s p) p = s := by
  simp only [flipS]; split <;> split <;> split <;> omega
theorem onP_flip (s : Int) (p : Nat) : onP (flipS s p) p = !onP s p := by
  simp only [onP, flipS]
  split
  · rename_i hp
    rw [Bool.eq_iff_iff]
    simp only [decide_eq_true_eq, Bool.not_eq_true', decide_eq_false_iff_not]
    split <;> omega
  · rename_i hp
    rw [Bool.eq_iff_iff]
    simp only [decide_eq_true_eq, Bool.not_eq_true', decide_eq_false_iff_not]
    split <;> omega
theorem getD_set_self {ss : List Int} {k : Nat} (hk : k < ss.length) (x : Int) : (ss.set k x).getD k 0 = x := by
  rw [List.getD_eq_getElem?_getD, List.getElem?_set_self hk]; rfl
theorem part_flip {b : BB} {p : Nat} (hp : p ≤ 2 * b.1.length) : partR (flipR b p) p = !partR b p := by
  by_cases h0 : p = 0
  · subst h0; rfl
  · have hk : (p - 1) / 2 < b.1.length := by omega
    rw [partR, if_neg h0, partR, if_neg h0, flipR, if_neg h0]
    simp only
    rw [getD_set_self hk, onP_flip]
theorem flip_twice {b : BB} {p : Nat} (hp : p ≤ 2 * b.1.length) : flipR (flipR b p) p = b := by
  obtain ⟨ss, c⟩ := b
  by_cases h0 : p = 0
  · subst h0; simp [flipR]
  · have hk : (p - 1) / 2 < ss.length := by simp only at hp; omega
    simp only [flipR, if_neg h0]
    rw [getD_set_self hk, flipS_twice, List.set_set, List.getD_eq_getElem?_getD, List.getElem?_eq_getElem hk, Option.getD_some, List.set_getElem_self]
theorem may_in {b : BB} {d : Int} (h : mayR b d = true) : ∃ k : Nat, d = k ∧ k < 4 * b.1.length + 2 ∧ partR b (k / 2) = !(k % 2 == 1) ∧ brsOk (flipR b (k / 2)) = true := by
  simp only [mayR, Bool.and_eq_true, decide_eq_true_eq, Bool.not_eq_true'] at h
  refine ⟨d.toNat, by omega, by omega, ?_, h.2⟩
  have := h.1.2
  generalize partR b (d.toNat / 2) = x at *
  generalize (d.toNat % 2 == 1) = y at *
  cases x <;> cases y <;> simp_all
theorem back_R {b : BB} {d : Int} (hb : brsOk b = true) (h : mayR b d = true) :
    mayR (doR b d) (d + 1 - 2 * (d % 2)) = true ∧ doR (doR b d) (d + 1 - 2 * (d % 2)) = b ∧ doR b d ≠ b := by
  obtain ⟨k, rfl, hk, hp, hf⟩ := may_in h
  have hd : doR b k = flipR b (k / 2) := by rw [doR, if_pos h]; rfl
  have hp2 : k / 2 ≤ 2 * b.1.length := by omega
  have e1 : ((k : Int) + 1 - 2 * ((k : Int) % 2)) = ((k + 1 - 2 * (k % 2) : Nat) : Int) := by omega
  have e2 : (k + 1 - 2 * (k % 2)) / 2 = k / 2 := by omega
  have e3 : ((k + 1 - 2 * (k % 2)) % 2 == 1) = !(k % 2 == 1) := by
    rw [Bool.eq_iff_iff]; simp; omega
  have hm : mayR (doR b k) (k + 1 - 2 * (k % 2) : Nat) = true := by
    simp only [mayR, Int.toNat_natCast, Bool.and_eq_true, decide_eq_true_eq, hd, flip_len, e2, e3, flip_twice hp2, part_flip hp2, hp, hb]
    refine ⟨⟨⟨by omega, by omega⟩, by cases (k % 2 == 1) <;> rfl⟩, trivial⟩
  rw [e1]
  refine ⟨hm, ?_, ?_⟩
  · rw [doR, if_pos hm, Int.toNat_natCast, e2, hd, flip_twice hp2]
  · rw [hd]; intro e
    have := part_flip (b := b) hp2
    rw [e] at this
    cases partR b (k / 2) <;> simp at this

/-! Bars as a number -/
def numS : List Int → Nat
  | [] => 0
  | s :: ss => s.toNat + 4 * numS ss
def numR (b : BB) : Nat := 2 * numS b.1 + b.2.toNat
def offR (n m : Nat) : BB := ((List.range m).map fun i => ((n / 2 ^ (2 * i + 1) % 4 : Nat) : Int), n % 2 == 1)
theorem numS_at : ∀ (ss : List Int) (k : Nat), (∀ s ∈ ss, 0 ≤ s ∧ s ≤ 3) → numS ss / 4 ^ k % 4 = (ss.getD k 0).toNat
  | [], k, _ => by simp [numS]
  | s :: ss, 0, h => by
    have := h s (by simp)
    simp [numS]; omega
  | s :: ss, k + 1, h => by
    have h0 := h s (by simp)
    have e : numS (s :: ss) / 4 ^ (k + 1) = numS ss / 4 ^ k := by
      rw [Nat.pow_succ, Nat.mul_comm, ← Nat.div_div_eq_div_mul, numS]; congr 1; omega
    rw [e, numS_at ss k (fun x hx => h x (by simp [hx]))]; simp
theorem numS_lt : ∀ (ss : List Int), (∀ s ∈ ss, 0 ≤ s ∧ s ≤ 3) → numS ss < 4 ^ ss.length
  | [], _ => by simp [numS]
  | s :: ss, h => by
    have h0 := h s (by simp)
    have := numS_lt ss (fun x hx => h x (by simp [hx]))
    rw [numS, List.length_cons, Nat.pow_succ]; omega
theorem numS_snoc : ∀ (ss : List Int) (s : Int), numS (ss ++ [s]) = numS ss + s.toNat * 4 ^ ss.length
  | [], s => by simp [numS]
  | t :: ss, s => by
    rw [List.cons_append, numS, numS_snoc ss s, numS, List.length_cons, Nat.pow_succ, Nat.mul_add, ← Nat.add_assoc, Nat.mul_comm 4 (_ * _), Nat.mul_assoc]
theorem xor_four (a b : Nat) : a ^^^ b = 4 * (a / 4 ^^^ b / 4) + (a % 4 ^^^ b % 4) := by
  have h1 := Nat.xor_div_two_pow (a := a) (b := b) (n := 2)
  have h2 := Nat.xor_mod_two_pow (a := a) (b := b) (n := 2)
  have e : (2 : Nat) ^ 2 = 4 := rfl
  rw [e] at h1 h2
  rw [← h1, ← h2]; omega
theorem xor_two (a b : Nat) : a ^^^ b = 2 * (a / 2 ^^^ b / 2) + (a % 2 ^^^ b % 2) := by
  have h1 := Nat.xor_div_two_pow (a := a) (b := b) (n := 1)
  have h2 := Nat.xor_mod_two_pow (a := a) (b := b) (n := 1)
  rw [Nat.pow_one] at h1 h2
  rw [← h1, ← h2]; omega
theorem flip_nat : ∀ s : Nat, s < 4 → ∀ j, j < 2 → (flipS (s : Int) (1 + j)).toNat = s ^^^ 2 ^ j := by decide
theorem flip_par (s : Int) {p q : Nat} (h : p % 2 = q % 2) : flipS s p = flipS s q := by simp only [flipS, h]
theorem numS_set : ∀ (ss : List Int) (k j : Nat), (∀ s ∈ ss, 0 ≤ s ∧ s ≤ 3) → k < ss.length → j < 2 → numS (ss.set k (flipS (ss.getD k 0) (1 + j))) = numS ss ^^^ 2 ^ (2 * k + j)
  | [], k, j, _, h, _ => by simp at h
  | s :: ss, 0, j, h, _, hj => by
    obtain ⟨h0, h1⟩ := h s (by simp)
    obtain ⟨n, rfl⟩ := Int.eq_ofNat_of_zero_le h0
    have hf := flip_nat n (by omega) j hj
    have hp : (2 ^ j) / 4 = 0 ∧ 2 ^ j % 4 = 2 ^ j := by
      rcases (show j = 0 ∨ j = 1 by omega) with rfl | rfl <;> decide
    rw [xor_four, show 2 * 0 + j = j by omega, hp.1, hp.2, Nat.xor_zero]
    have e1 : numS ((n : Int) :: ss) / 4 = numS ss := by rw [numS]; omega
    have e2 : numS ((n : Int) :: ss) % 4 = n := by rw [numS]; omega
    rw [e1, e2, ← hf]
    simp [numS]; omega
  | s :: ss, k + 1, j, h, hk, hj => by
    obtain ⟨h0, h1⟩ := h s (by simp)
    have ih := numS_set ss k j (fun x hx => h x (by simp [hx])) (by simpa using hk) hj
    have hp : (2 ^ (2 * (k + 1) + j)) / 4 = 2 ^ (2 * k + j) ∧ 2 ^ (2 * (k + 1) + j) % 4 = 0 := by
      have : 2 ^ (2 * (k + 1) + j) = 4 * 2 ^ (2 * k + j) := by
        rw [show 2 * (k + 1) + j = 2 + (2 * k + j) by omega, Nat.pow_add]
      omega
    rw [xor_four, hp.1, hp.2, Nat.xor_zero]
    have e1 : numS (s :: ss) / 4 = numS ss := by rw [numS]; omega
    have e2 : numS (s :: ss) % 4 = s.toNat := by rw [numS]; omega
    rw [e1, e2, ← ih]
    simp [numS]; omega
theorem num_half (b : BB) : numR b / 2 = numS b.1 ∧ numR b % 2 = b.2.toNat := by
  have : b.2.toNat ≤ 1 := by cases b.2 <;> simp
  rw [numR]; omega
theorem num_off {b : BB} (h : ∀ s ∈ b.1, 0 ≤ s ∧ s ≤ 3) : offR (numR b) b.1.length = b := by
  obtain ⟨ss, c⟩ := b
  rw [offR]
  refine Prod.ext ?_ ?_
  · simp only
    apply List.ext_getElem
    · simp
    · intro k h1 h2
      simp only [List.getElem_map, List.getElem_range]
      have e : numR (ss, c) / 2 ^ (2 * k + 1) = numS ss / 4 ^ k := by
        rw [show 2 * k + 1 = 1 + 2 * k by omega, Nat.pow_add, ← Nat.div_div_eq_div_mul, Nat.pow_one, (num_half (ss, c)).1, Nat.pow_mul]
      rw [e, numS_at ss k h, List.getD_eq_getElem?_getD, List.getElem?_eq_getElem h2, Option.getD_some]
      have := h ss[k] (List.getElem_mem h2)
      omega
  · simp only
    rw [(num_half (ss, c)).2]; cases c <;> rfl
theorem num_flip {b : BB} (h : ∀ s ∈ b.1, 0 ≤ s ∧ s ≤ 3) {p : Nat} (hp : p ≤ 2 * b.1.length) : numR b ^^^ 2 ^ p = numR (flipR b p) := by
  obtain ⟨ss, c⟩ := b
  by_cases h0 : p = 0
  · subst h0
    rw [xor_two, (num_half (ss, c)).1, (num_half (ss, c)).2, flipR, if_pos rfl, numR]
    cases c <;> simp
  · obtain ⟨q, rfl⟩ : ∃ q, p = q + 1 := ⟨p - 1, by omega⟩
    simp only at hp
    have hs := numS_set ss (q / 2) (q % 2) h (by omega) (by omega)
    rw [show 2 * (q / 2) + q % 2 = q by omega, flip_par _ (show (1 + q % 2) % 2 = (q + 1) % 2 by omega)] at hs
    have e : 2 ^ (q + 1) / 2 = 2 ^ q ∧ 2 ^ (q + 1) % 2 = 0 := by rw [Nat.pow_succ]; omega
    rw [xor_two, (num_half (ss, c)).1, (num_half (ss, c)).2, e.1, e.2, Nat.xor_zero, flipR, if_neg h0, numR]
    simp only [Nat.add_sub_cancel]
    rw [hs]
theorem num_bit {b : BB} (h : ∀ s ∈ b.1, 0 ≤ s ∧ s ≤ 3) (p : Nat) : decide (numR b / 2 ^ p % 2 = 1) = partR b p := by
  obtain ⟨ss, c⟩ := b
  by_cases h0 : p = 0
  · subst h0
    rw [Nat.pow_zero, Nat.div_one, (num_half (ss, c)).2, partR, if_pos rfl]; cases c <;> rfl
  · obtain ⟨q, rfl⟩ : ∃ q, p = q + 1 := ⟨p - 1, by omega⟩
    have e : numR (ss, c) / 2 ^ (q + 1) = numS ss / 4 ^ (q / 2) / 2 ^ (q % 2) := by
      have e1 : (4 : Nat) ^ (q / 2) * 2 ^ (q % 2) = 2 ^ q := by
        rw [show (4 : Nat) = 2 ^ 2 from rfl, ← Nat.pow_mul, ← Nat.pow_add, Nat.div_add_mod]
      rw [Nat.div_div_eq_div_mul, e1, Nat.pow_succ, Nat.mul_comm, ← Nat.div_div_eq_div_mul, (num_half (ss, c)).1]
    have ha := numS_at ss (q / 2) h
    rw [e, partR, if_neg h0]
    simp only [Nat.add_sub_cancel]
    have hin : 0 ≤ ss.getD (q / 2) 0 := by
      rw [List.getD_eq_getElem?_getD]
      cases hq : ss[q / 2]? with
      | none => simp
      | some s => exact (h s (List.mem_of_getElem? hq)).1
    generalize ss.getD (q / 2) 0 = s at *
    generalize numS ss / 4 ^ (q / 2) = n at *
    rw [onP]
    rcases (show q % 2 = 0 ∨ q % 2 = 1 by omega) with hq | hq
    · rw [if_pos (by omega), hq, Nat.pow_zero, Nat.div_one, decide_eq_decide]; omega
    · rw [if_neg (by omega), hq, Nat.pow_one, decide_eq_decide]; omega
theorem num_lt13 {b : BB} (h : ∀ s ∈ b.1, 0 ≤ s ∧ s ≤ 3) (hl : b.1.length ≤ 6) : numR b < 8192 := by
  have h1 := numS_lt b.1 h
  have h2 : 4 ^ b.1.length ≤ 4 ^ 6 := Nat.pow_le_pow_right (by decide) hl
  have h3 : b.2.toNat ≤ 1 := by cases b.2 <;> simp
  rw [numR]
  have : (4 : Nat) ^ 6 = 4096 := by decide
  omega
theorem flip_in {b : BB} (h : ∀ s ∈ b.1, 0 ≤ s ∧ s ≤ 3) (p : Nat) : ∀ s ∈ (flipR b p).1, 0 ≤ s ∧ s ≤ 3 := by
  rw [flipR]
  split
  · exact h
  · intro s hs
    rcases List.mem_or_eq_of_mem_set hs with h1 | h1
    · exact h s h1
    · subst h1
      have hin : 0 ≤ b.1.getD ((p - 1) / 2) 0 ∧ b.1.getD ((p - 1) / 2) 0 ≤ 3 := by
        rw [List.getD_eq_getElem?_getD]
        cases hq : b.1[(p - 1) / 2]? with
        | none => simp
        | some s => exact h s (List.mem_of_getElem? hq)
      simp only [flipS]
      split <;> split <;> omega
end Go.Proofs.YtafgfhjlkdjngaaDoor
