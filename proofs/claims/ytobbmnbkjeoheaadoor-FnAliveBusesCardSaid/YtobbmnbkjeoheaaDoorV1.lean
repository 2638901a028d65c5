/- Sums over buses, plain facts: over the buses that a truth picks, over islands. -/
import Derived.Test.YtobbmnbkjeoheaaDoorI3
import Derived.Test.YtobbmnbkjeoheaaDoorV0
namespace Go.Proofs.YtobbmnbkjeoheaaDoor
open Go.RowKit

/-- The sum of f over those of the first k that p picks. -/
def gsum (p : Nat → Bool) (f : Nat → Int) : Nat → Int
  | 0 => 0
  | k + 1 => gsum p f k + (if p k = true then f k else 0)
theorem gsum_yes {p : Nat → Bool} {f : Nat → Int} {k : Nat} (h : p k = true) : gsum p f (k + 1) = gsum p f k + f k := by rw [gsum, if_pos h]
theorem gsum_no {p : Nat → Bool} {f : Nat → Int} {k : Nat} (h : p k = false) : gsum p f (k + 1) = gsum p f k := by rw [gsum, if_neg (by rw [h]; decide)]; omega
theorem gsum_bd {p : Nat → Bool} {f : Nat → Int} {M : Int} : ∀ {k : Nat}, (∀ b, b < k → 0 ≤ f b ∧ f b ≤ M) → 0 ≤ gsum p f k ∧ gsum p f k ≤ k * M
  | 0, _ => by simp [gsum]
  | k + 1, h => by
    have ih := gsum_bd (p := p) (k := k) (fun b hb => h b (by omega))
    have hk := h k (by omega)
    have e : ((k + 1 : Nat) : Int) * M = k * M + M := by rw [Int.natCast_add, Int.add_mul]; simp
    rw [gsum, e]
    split <;> omega
theorem gsum_congr {p q : Nat → Bool} {f g : Nat → Int} : ∀ {k : Nat}, (∀ b, b < k → p b = q b ∧ f b = g b) → gsum p f k = gsum q g k
  | 0, _ => rfl
  | k + 1, h => by
    rw [gsum, gsum, gsum_congr (fun b hb => h b (by omega)), (h k (by omega)).1, (h k (by omega)).2]
theorem gsum_add (p : Nat → Bool) (f g : Nat → Int) : ∀ k : Nat, gsum p (fun b => f b + g b) k = gsum p f k + gsum p g k
  | 0 => rfl
  | k + 1 => by
    rw [gsum, gsum, gsum, gsum_add p f g k]
    split <;> omega
theorem gsum_zero (p : Nat → Bool) {f : Nat → Int} (hf : ∀ b, p b = true → f b = 0) : ∀ k : Nat, gsum p f k = 0
  | 0 => rfl
  | k + 1 => by
    rw [gsum, gsum_zero p hf k]
    split
    · rename_i h; rw [hf k h]; rfl
    · rfl
theorem gsum_le {p q : Nat → Bool} {f : Nat → Int} : ∀ {k : Nat}, (∀ b, b < k → 0 ≤ f b) → (∀ b, b < k → p b = true → q b = true) → gsum p f k ≤ gsum q f k
  | 0, _, _ => by simp [gsum]
  | k + 1, h, hq => by
    have ih := gsum_le (p := p) (q := q) (f := f) (k := k) (fun b hb => h b (by omega)) (fun b hb => hq b (by omega))
    have hk := h k (by omega)
    have hqk := hq k (by omega)
    rw [gsum, gsum]
    by_cases hp : p k = true
    · rw [if_pos hp, if_pos (hqk hp)]; omega
    · rw [if_neg hp]; split <;> omega
/-- The sum over a list that is filtered. -/
theorem filter_gsum (p : Nat → Bool) (f : Nat → Int) : ∀ k : Nat, (((List.range k).filter p).map f).sum = gsum p f k
  | 0 => rfl
  | k + 1 => by
    rw [List.range_succ, List.filter_append, List.map_append, List.sum_append, filter_gsum p f k, gsum]
    congr 1
    by_cases h : p k = true
    · simp [h]
    · rw [Bool.not_eq_true] at h; simp [h]
/-- The running sum over a list of buses. -/
def lsum (f : Nat → Int) (hs : List Nat) (k : Nat) : Int := ((hs.take k).map f).sum
theorem lsum_succ {f : Nat → Int} {hs : List Nat} {k h : Nat} (hk : hs[k]? = some h) : lsum f hs (k + 1) = lsum f hs k + f h := by
  rw [lsum, List.take_add_one, hk, List.map_append, List.sum_append]; simp [lsum]
theorem lsum_all (f : Nat → Int) (hs : List Nat) : lsum f hs hs.length = (hs.map f).sum := by rw [lsum, List.take_length]
theorem lsum_bd {f : Nat → Int} {hs : List Nat} {M : Int} (hf : ∀ h ∈ hs, 0 ≤ f h ∧ f h ≤ M) : ∀ k : Nat, k ≤ hs.length → 0 ≤ lsum f hs k ∧ lsum f hs k ≤ k * M
  | 0, _ => by simp [lsum]
  | k + 1, h => by
    have hk : hs[k]? = some (hs[k]'(by omega)) := List.getElem?_eq_getElem _
    have ih := lsum_bd hf k (by omega)
    have h1 := hf _ (List.mem_of_getElem? hk)
    have e : ((k + 1 : Nat) : Int) * M = k * M + M := by rw [Int.natCast_add, Int.add_mul]; simp
    rw [lsum_succ hk, e]
    omega

/-! Islands -/
theorem head_conn (es : List E2) (h b : Nat) : ((leastF es h == h) && connB es h b) = (h == leastF es b) := by
  rw [Bool.eq_iff_iff, Bool.and_eq_true, beq_iff_eq, beq_iff_eq, connB_iff]
  constructor
  · rintro ⟨h1, h2⟩
    exact h1.symm.trans (leastF_eq.2 h2)
  · intro e
    subst e
    exact ⟨leastF_self rfl, (leastF_spec es b).1.symm⟩
theorem gsum_one {a : Nat} {x : Int} {c : Nat → Bool} {q : Nat → Bool} (hq : ∀ h, q h = ((h == a) && c h)) : ∀ {n : Nat}, a < n → gsum q (fun _ => x) n = if c a = true then x else 0
  | 0, h => absurd h (by omega)
  | n + 1, h => by
    rw [gsum]
    by_cases hn : a = n
    · subst hn
      have h0 : gsum q (fun _ => x) a = 0 := by
        have : ∀ k : Nat, k ≤ a → gsum q (fun _ => x) k = 0 := by
          intro k
          induction k with
          | zero => intro _; rfl
          | succ k ih =>
            intro hk
            rw [gsum, ih (by omega), if_neg (by rw [hq k]; simp; omega)]; rfl
        exact this a (Nat.le_refl _)
      rw [h0, hq a]
      simp
    · have hqn : q n = false := by rw [hq n]; simp; omega
      rw [gsum_one hq (show a < n by omega), hqn]
      simp
theorem gsum_if (p c : Nat → Bool) (f : Nat → Int) : ∀ k : Nat, gsum p (fun b => if c b = true then f b else 0) k = gsum (fun b => p b && c b) f k
  | 0 => rfl
  | k + 1 => by
    rw [gsum, gsum, gsum_if p c f k]
    congr 1
    cases p k <;> cases c k <;> simp
/-- The sums of the islands that are picked are the sum over the buses whose island is picked. -/
theorem heads_gsum (es : List E2) (nb : Nat) (c : Nat → Bool) (f : Nat → Int) : ∀ m : Nat, m ≤ nb →
    ((heads es nb).map fun h => if c h = true then gsum (connB es h) f m else 0).sum = gsum (fun b => c (leastF es b)) f m
  | 0, _ => by
    rw [heads, filter_gsum]
    exact gsum_zero _ (fun b _ => by simp [gsum]) _
  | m + 1, hm => by
    have ih := heads_gsum es nb c f m (by omega)
    rw [heads, filter_gsum] at ih ⊢
    have e : gsum (fun b => leastF es b == b) (fun h => if c h = true then gsum (connB es h) f (m + 1) else 0) nb
        = gsum (fun b => leastF es b == b) (fun h => (if c h = true then gsum (connB es h) f m else 0) + (if (c h && connB es h m) = true then f m else 0)) nb := by
      refine gsum_congr fun b _ => ⟨rfl, ?_⟩
      rw [gsum]
      cases c b <;> simp
    rw [e, gsum_add, ih, gsum_if, gsum]
    congr 1
    refine gsum_one (a := leastF es m) (c := c) (fun h => ?_) (leastF_lt (by omega))
    have := head_conn es h m
    rw [← this]
    cases c h <;> cases (leastF es h == h) <;> simp
/-- All islands have together all. -/
theorem heads_all (es : List E2) (nb : Nat) (f : Nat → Int) : ((heads es nb).map fun h => gsum (connB es h) f nb).sum = gsum (fun _ => true) f nb := by
  have := heads_gsum es nb (fun _ => true) f nb (Nat.le_refl _)
  simpa using this

/-! What buses give and want -/
def fd (us : List U2) (b : Nat) : Int := (us.getD b (0, 0)).1
def ld (us : List U2) (b : Nat) : Int := (us.getD b (0, 0)).2
theorem fd_at {us : List U2} {b : Nat} {u : U2} (h : us[b]? = some u) : fd us b = u.1 := by rw [fd, List.getD_eq_getElem?_getD, h]; rfl
theorem ld_at {us : List U2} {b : Nat} {u : U2} (h : us[b]? = some u) : ld us b = u.2 := by rw [ld, List.getD_eq_getElem?_getD, h]; rfl
theorem fd_bd {bs : Int} {ls : List L3} {us : List U2} (h : busesOk bs ls us = true) (b : Nat) : 0 ≤ fd us b ∧ fd us b ≤ 999 := by
  rcases hb : us[b]? with _ | u
  · rw [fd, List.getD_eq_getElem?_getD, hb]; simp
  · rw [fd_at hb]; have := busesOk_at h hb; omega
theorem ld_bd {bs : Int} {ls : List L3} {us : List U2} (h : busesOk bs ls us = true) (b : Nat) : 0 ≤ ld us b ∧ ld us b ≤ 999 := by
  rcases hb : us[b]? with _ | u
  · rw [ld, List.getD_eq_getElem?_getD, hb]; simp
  · rw [ld_at hb]; have := busesOk_at h hb; omega
/-- The sum over the island of a bus. -/
noncomputable def isum (es : List E2) (nb : Nat) (f : Nat → Int) (b : Nat) : Int := gsum (connB es b) f nb
theorem isum_congr {es : List E2} {nb : Nat} {f : Nat → Int} {a b : Nat} (h : Conn es a b) : isum es nb f a = isum es nb f b :=
  gsum_congr fun c _ => ⟨connB_congr h c, rfl⟩
theorem isum_list (es : List E2) (nb : Nat) (f : Nat → Int) (b : Nat) : ((reachF es nb b).map f).sum = isum es nb f b := filter_gsum _ _ _
theorem isum_bd {es : List E2} {nb : Nat} {f : Nat → Int} {b : Nat} (hnb : nb ≤ 8) (hf : ∀ c, 0 ≤ f c ∧ f c ≤ 999) : 0 ≤ isum es nb f b ∧ isum es nb f b ≤ 7992 := by
  have := gsum_bd (p := connB es b) (f := f) (M := 999) (k := nb) (fun c _ => hf c)
  unfold isum; omega
/-- The answers of chapter 5. -/
noncomputable def feedF (bs : Int) (ls : List L3) (ts : List Bool) (us : List U2) (bus : Int) : Int := if okU bs ls ts.length us = true ∧ inB bus 0 (bs - 1) = true then isum (edgesOn ls ts) bs.toNat (fd us) bus.toNat else -1
noncomputable def loadF (bs : Int) (ls : List L3) (ts : List Bool) (us : List U2) (bus : Int) : Int := if okU bs ls ts.length us = true ∧ inB bus 0 (bs - 1) = true then isum (edgesOn ls ts) bs.toNat (ld us) bus.toNat else -1
/-- The buses among the first k that are alive; those whose island has enough. -/
noncomputable def aliB (es : List E2) (nb : Nat) (us : List U2) (b : Nat) : Bool := decide (0 < isum es nb (fd us) b)
noncomputable def serB (es : List E2) (nb : Nat) (us : List U2) (b : Nat) : Bool := decide (isum es nb (ld us) b ≤ isum es nb (fd us) b)
noncomputable def aliTo (es : List E2) (nb : Nat) (us : List U2) (k : Nat) : List Nat := (List.range k).filter (aliB es nb us)
noncomputable def aliF (bs : Int) (ls : List L3) (ts : List Bool) (us : List U2) : List Int := if okU bs ls ts.length us = true then ofN (aliTo (edgesOn ls ts) bs.toNat us bs.toNat) else []
noncomputable def serF (bs : Int) (ls : List L3) (ts : List Bool) (us : List U2) : Int := if okU bs ls ts.length us = true then gsum (serB (edgesOn ls ts) bs.toNat us) (ld us) bs.toNat else -1
theorem aliTo_yes {es : List E2} {nb k : Nat} {us : List U2} (h : aliB es nb us k = true) : aliTo es nb us (k + 1) = aliTo es nb us k ++ [k] := by
  rw [aliTo, List.range_succ, List.filter_append, List.filter_cons, h]; rfl
theorem aliTo_no {es : List E2} {nb k : Nat} {us : List U2} (h : aliB es nb us k = false) : aliTo es nb us (k + 1) = aliTo es nb us k := by
  rw [aliTo, List.range_succ, List.filter_append, List.filter_cons, h]; simp [aliTo]
theorem aliTo_len (es : List E2) (nb : Nat) (us : List U2) (k : Nat) : (aliTo es nb us k).length ≤ k := Nat.le_trans (List.length_filter_le _ _) (by simp)
theorem okU_bs {bs : Int} {ls : List L3} {m : Nat} {us : List U2} (h : okU bs ls m us = true) : 1 ≤ bs ∧ bs ≤ 8 := stOk_bs (okU_st h)
theorem aliF_len (bs : Int) (ls : List L3) (ts : List Bool) (us : List U2) : (aliF bs ls ts us).length ≤ 8 := by
  rw [aliF]; split
  · rename_i h
    have := (okU_bs h).2
    have := aliTo_len (edgesOn ls ts) bs.toNat us bs.toNat
    rw [ofN_len]; omega
  · simp

/-! The program's sums -/
/-- Each bus's own number so far: the sums of the first k buses stand at the least bus of each island. -/
noncomputable def sumAt (es : List E2) (us : List U2) (k h : Nat) : U2 := (gsum (fun b => leastF es b == h) (fd us) k, gsum (fun b => leastF es b == h) (ld us) k)
noncomputable def sumTo5 (es : List E2) (nb : Nat) (us : List U2) (k : Nat) : List U2 := (List.range nb).map (sumAt es us k)
theorem sumTo5_len (es : List E2) (nb : Nat) (us : List U2) (k : Nat) : (sumTo5 es nb us k).length = nb := by simp [sumTo5]
theorem sumTo5_get {es : List E2} {nb k h : Nat} {us : List U2} (hh : h < nb) : (sumTo5 es nb us k)[h]? = some (sumAt es us k h) := by rw [sumTo5, List.getElem?_map, List.getElem?_range hh]; rfl
theorem sumTo5_zero (es : List E2) (nb : Nat) (us : List U2) : sumTo5 es nb us 0 = List.replicate nb (0, 0) := by
  apply List.ext_getElem?
  intro i
  by_cases hi : i < nb
  · rw [sumTo5_get hi, List.getElem?_replicate, if_pos hi]; rfl
  · rw [List.getElem?_eq_none (by rw [sumTo5_len]; omega), List.getElem?_eq_none (by simp; omega)]
theorem sumTo5_succ {es : List E2} {nb k : Nat} {us : List U2} : sumTo5 es nb us (k + 1) = (sumTo5 es nb us k).set (leastF es k) ((sumAt es us k (leastF es k)).1 + fd us k, (sumAt es us k (leastF es k)).2 + ld us k) := by
  apply List.ext_getElem?
  intro i
  by_cases hi : i < nb
  · rw [sumTo5_get hi, List.getElem?_set]
    by_cases he : leastF es k = i
    · subst he
      rw [if_pos rfl, if_pos (by rw [sumTo5_len]; exact hi), sumAt, gsum_yes (by simp), gsum_yes (by simp)]; rfl
    · rw [if_neg he, sumTo5_get hi, sumAt, gsum_no (by simpa using he), gsum_no (by simpa using he)]; rfl
  · rw [List.getElem?_eq_none (by rw [sumTo5_len]; omega), List.getElem?_eq_none (by simp [sumTo5_len]; omega)]
/-- Then each bus takes those of its island. -/
noncomputable def sumBack (es : List E2) (nb : Nat) (us : List U2) (k : Nat) : List U2 := (List.range nb).map fun b => sumAt es us nb (if b < k then leastF es b else b)
theorem sumBack_len (es : List E2) (nb : Nat) (us : List U2) (k : Nat) : (sumBack es nb us k).length = nb := by simp [sumBack]
theorem sumBack_get {es : List E2} {nb k b : Nat} {us : List U2} (hh : b < nb) : (sumBack es nb us k)[b]? = some (sumAt es us nb (if b < k then leastF es b else b)) := by rw [sumBack, List.getElem?_map, List.getElem?_range hh]; rfl
theorem sumBack_zero (es : List E2) (nb : Nat) (us : List U2) : sumBack es nb us 0 = sumTo5 es nb us nb := by
  apply List.ext_getElem?
  intro i
  by_cases hi : i < nb
  · rw [sumBack_get hi, sumTo5_get hi]; simp
  · rw [List.getElem?_eq_none (by rw [sumBack_len]; omega), List.getElem?_eq_none (by simp [sumTo5_len]; omega)]
theorem sumBack_num {es : List E2} {nb k : Nat} {us : List U2} (hk : k < nb) : (sumBack es nb us k)[leastF es k]? = some (sumAt es us nb (leastF es k)) := by
  rw [sumBack_get (leastF_lt hk)]
  congr 2
  split
  · exact leastF_self rfl
  · rfl
theorem sumBack_succ {es : List E2} {nb k : Nat} {us : List U2} : sumBack es nb us (k + 1) = (sumBack es nb us k).set k (sumAt es us nb (leastF es k)) := by
  apply List.ext_getElem?
  intro i
  by_cases hi : i < nb
  · rw [sumBack_get hi, List.getElem?_set]
    by_cases he : k = i
    · subst he
      have hl : k < (sumBack es nb us k).length := by rw [sumBack_len]; exact hi
      rw [if_pos rfl, if_pos hl, if_pos (Nat.lt_succ_self k)]
    · rw [if_neg he, sumBack_get hi]
      congr 2
      by_cases h1 : i < k
      · rw [if_pos h1, if_pos (by omega)]
      · rw [if_neg h1, if_neg (by omega)]
  · rw [List.getElem?_eq_none (by rw [sumBack_len]; omega), List.getElem?_eq_none (by simp [sumBack_len]; omega)]
noncomputable def sumsF (es : List E2) (nb : Nat) (us : List U2) : List U2 := (List.range nb).map fun b => (isum es nb (fd us) b, isum es nb (ld us) b)
theorem sumsF_len (es : List E2) (nb : Nat) (us : List U2) : (sumsF es nb us).length = nb := by simp [sumsF]
theorem sumsF_get {es : List E2} {nb b : Nat} {us : List U2} (hh : b < nb) : (sumsF es nb us)[b]? = some (isum es nb (fd us) b, isum es nb (ld us) b) := by rw [sumsF, List.getElem?_map, List.getElem?_range hh]; rfl
theorem sumBack_all (es : List E2) (nb : Nat) (us : List U2) : sumBack es nb us nb = sumsF es nb us := by
  apply List.ext_getElem?
  intro i
  by_cases hi : i < nb
  · rw [sumBack_get hi, sumsF_get hi, if_pos hi, sumAt]
    have key : ∀ c, (leastF es c == leastF es i) = connB es i c := fun c => by
      rw [Bool.eq_iff_iff, beq_iff_eq, leastF_eq, connB_iff]; exact ⟨Conn.symm, Conn.symm⟩
    congr 2
    · exact gsum_congr fun c _ => ⟨key c, rfl⟩
    · exact gsum_congr fun c _ => ⟨key c, rfl⟩
  · rw [List.getElem?_eq_none (by rw [sumBack_len]; omega), List.getElem?_eq_none (by simp [sumsF_len]; omega)]
theorem sumAt_bd {bs : Int} {ls : List L3} {es : List E2} {us : List U2} {k h : Nat} (hb : busesOk bs ls us = true) (hk : k ≤ 8) : 0 ≤ (sumAt es us k h).1 ∧ (sumAt es us k h).1 ≤ 7992 ∧ 0 ≤ (sumAt es us k h).2 ∧ (sumAt es us k h).2 ≤ 7992 := by
  have h1 := gsum_bd (p := fun b => leastF es b == h) (f := fd us) (M := 999) (k := k) (fun c _ => fd_bd hb c)
  have h2 := gsum_bd (p := fun b => leastF es b == h) (f := ld us) (M := 999) (k := k) (fun c _ => ld_bd hb c)
  simp only [sumAt]
  omega
end Go.Proofs.YtobbmnbkjeoheaaDoor
