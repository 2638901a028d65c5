/- Islands, plain facts: what is joined by lines, the least bus of an island, how many islands there are. -/
import Derived.Test.YtobbmnbkjeoheaaDoorBase
namespace Go.Proofs.YtobbmnbkjeoheaaDoor
open Go.RowKit

abbrev E2 := Nat × Nat
def Adj (es : List E2) (a b : Nat) : Prop := (a, b) ∈ es ∨ (b, a) ∈ es
theorem Adj.symm {es : List E2} {a b : Nat} (h : Adj es a b) : Adj es b a := h.elim .inr .inl
/-- Joined by lines, also by none. -/
inductive Conn (es : List E2) : Nat → Nat → Prop
  | refl (a : Nat) : Conn es a a
  | step {a b c : Nat} : Conn es a b → Adj es b c → Conn es a c
section
variable {es es' : List E2} {a b c u v : Nat}
theorem Conn.one (h : Adj es a b) : Conn es a b := (Conn.refl a).step h
theorem Conn.trans (h : Conn es a b) (k : Conn es b c) : Conn es a c := by
  induction k with
  | refl => exact h
  | step _ hs ih => exact ih.step hs
theorem Conn.symm (h : Conn es a b) : Conn es b a := by
  induction h with
  | refl => exact Conn.refl _
  | step _ hs ih => exact (Conn.one hs.symm).trans ih
theorem Conn.mono (h : Conn es a b) (hs : ∀ x y, Adj es x y → Adj es' x y) : Conn es' a b := by
  induction h with
  | refl => exact Conn.refl _
  | step _ h2 ih => exact ih.step (hs _ _ h2)
/-- What is joined to a vertex within bounds lies within bounds. -/
theorem Conn.lt {nb : Nat} (h : Conn es a b) (hes : ∀ e ∈ es, e.1 < nb ∧ e.2 < nb) (ha : a < nb) : b < nb := by
  induction h with
  | refl => exact ha
  | step _ hs _ =>
    rcases hs with hs | hs
    · exact (hes _ hs).2
    · exact (hes _ hs).1
/-- Whatever is closed under the lines and holds a holds all that is joined to it. -/
theorem Conn.closed {p : Nat → Prop} (hp : ∀ e ∈ es, p e.1 ↔ p e.2) (h : Conn es a b) (ha : p a) : p b := by
  induction h with
  | refl => exact ha
  | step _ hs ih =>
    rcases hs with hs | hs
    · exact (hp _ hs).1 ih
    · exact (hp _ hs).2 ih
/-- With one line more. -/
theorem conn_more (hadj : ∀ x y, Adj es' x y ↔ Adj es x y ∨ (x = u ∧ y = v) ∨ (x = v ∧ y = u)) :
    Conn es' a b ↔ Conn es a b ∨ (Conn es a u ∧ Conn es v b) ∨ (Conn es a v ∧ Conn es u b) := by
  have up : ∀ {x y}, Conn es x y → Conn es' x y := fun h => h.mono fun x y h2 => (hadj x y).2 (.inl h2)
  have uv : Conn es' u v := Conn.one ((hadj u v).2 (.inr (.inl ⟨rfl, rfl⟩)))
  constructor
  · intro h
    induction h with
    | refl => exact .inl (Conn.refl _)
    | step _ hs ih =>
      rcases (hadj _ _).1 hs with hs | ⟨rfl, rfl⟩ | ⟨rfl, rfl⟩
      · rcases ih with h | ⟨h1, h2⟩ | ⟨h1, h2⟩
        · exact .inl (h.step hs)
        · exact .inr (.inl ⟨h1, h2.step hs⟩)
        · exact .inr (.inr ⟨h1, h2.step hs⟩)
      · rcases ih with h | ⟨h1, h2⟩ | ⟨h1, h2⟩
        · exact .inr (.inl ⟨h, Conn.refl _⟩)
        · exact .inr (.inl ⟨h1, Conn.refl _⟩)
        · exact .inl h1
      · rcases ih with h | ⟨h1, h2⟩ | ⟨h1, h2⟩
        · exact .inr (.inr ⟨h, Conn.refl _⟩)
        · exact .inl h1
        · exact .inr (.inr ⟨h1, Conn.refl _⟩)
  · rintro (h | ⟨h1, h2⟩ | ⟨h1, h2⟩)
    · exact up h
    · exact ((up h1).trans uv).trans (up h2)
    · exact ((up h1).trans uv.symm).trans (up h2)
end

/-- The truth of it. -/
noncomputable def connB (es : List E2) (a b : Nat) : Bool := @decide (Conn es a b) (Classical.propDecidable _)
theorem connB_iff {es : List E2} {a b : Nat} : connB es a b = true ↔ Conn es a b := by
  unfold connB; exact @decide_eq_true_iff _ (Classical.propDecidable _)
theorem connB_no {es : List E2} {a b : Nat} : connB es a b = false ↔ ¬ Conn es a b := by
  rw [← connB_iff, Bool.not_eq_true]
theorem connB_symm (es : List E2) (a b : Nat) : connB es a b = connB es b a := by
  rw [Bool.eq_iff_iff, connB_iff, connB_iff]; exact ⟨Conn.symm, Conn.symm⟩
theorem connB_congr {es : List E2} {a b : Nat} (h : Conn es a b) (c : Nat) : connB es a c = connB es b c := by
  rw [Bool.eq_iff_iff, connB_iff, connB_iff]; exact ⟨fun k => h.symm.trans k, fun k => h.trans k⟩

/-- The least vertex that is joined to b. -/
noncomputable def leastF (es : List E2) (b : Nat) : Nat := ((List.range (b + 1)).find? (connB es b)).getD b
theorem leastF_spec (es : List E2) (b : Nat) : Conn es b (leastF es b) ∧ leastF es b ≤ b ∧ ∀ a, Conn es b a → leastF es b ≤ a := by
  unfold leastF
  rcases h : (List.range (b + 1)).find? (connB es b) with _ | m
  · rw [List.find?_eq_none] at h
    exact absurd (connB_iff.2 (Conn.refl b)) (by simpa using h b (by simp))
  · have h1 := List.find?_some h
    have h2 := List.mem_of_find?_eq_some h
    rw [List.mem_range] at h2
    refine ⟨connB_iff.1 h1, by simp; omega, fun a ha => ?_⟩
    simp only [Option.getD_some]
    rcases Nat.lt_or_ge a m with hlt | hge
    · rw [List.find?_eq_some_iff_append] at h
      obtain ⟨_, as, bs, hab, hn⟩ := h
      have hlen : as.length = m := by
        have e : (List.range (b + 1))[as.length]? = some m := by rw [hab]; simp
        rw [List.getElem?_range (by
          have := congrArg List.length hab; simp at this; omega)] at e
        exact Option.some.inj e
      have hm : a ∈ as := by
        have e : (List.range (b + 1))[a]? = some a := List.getElem?_range (by omega)
        rw [hab, List.getElem?_append_left (by omega)] at e
        exact List.mem_of_getElem? e
      have := hn a hm
      rw [connB_iff.2 ha] at this
      cases this
    · exact hge
theorem leastF_eq {es : List E2} {a b : Nat} : leastF es a = leastF es b ↔ Conn es a b := by
  obtain ⟨a1, _, a3⟩ := leastF_spec es a
  obtain ⟨b1, _, b3⟩ := leastF_spec es b
  constructor
  · intro h; rw [h] at a1; exact a1.trans b1.symm
  · intro h
    exact Nat.le_antisymm (a3 _ (h.trans b1)) (b3 _ (h.symm.trans a1))
theorem leastF_self {es : List E2} {a b : Nat} (h : leastF es a = b) : leastF es b = b := by
  have := leastF_eq.2 (leastF_spec es a).1
  rw [h] at this
  exact this.symm
theorem leastF_congr {es es' : List E2} (h : ∀ a b, Conn es a b ↔ Conn es' a b) (b : Nat) : leastF es b = leastF es' b := by
  obtain ⟨a1, _, a3⟩ := leastF_spec es b
  obtain ⟨b1, _, b3⟩ := leastF_spec es' b
  exact Nat.le_antisymm (a3 _ ((h _ _).2 b1)) (b3 _ ((h _ _).1 a1))

/-- How many islands nb vertices have. -/
noncomputable def cntF (es : List E2) (nb : Nat) : Nat := (List.range nb).countP fun b => leastF es b == b
theorem cntF_congr {es es' : List E2} (h : ∀ a b, Conn es a b ↔ Conn es' a b) (nb : Nat) : cntF es nb = cntF es' nb := by
  unfold cntF
  exact List.countP_congr fun b _ => by rw [leastF_congr h b]
theorem countP_but {p q : Nat → Bool} {m : Nat} : ∀ {nb : Nat}, m < nb → p m = true → q m = false → (∀ b, b ≠ m → p b = q b) → (List.range nb).countP p = (List.range nb).countP q + 1
  | 0, h, _, _, _ => absurd h (by omega)
  | nb + 1, h, hp, hq, he => by
    rw [List.range_succ, List.countP_append, List.countP_append]
    by_cases hm : m = nb
    · subst hm
      have e : (List.range m).countP p = (List.range m).countP q := List.countP_congr fun b hb => by
        have : b ≠ m := by have := List.mem_range.1 hb; omega
        rw [he b this]
      simp [e, hp, hq]
    · have ih := countP_but (nb := nb) (by omega) hp hq he
      have e2 : List.countP p [nb] = List.countP q [nb] := by
        simp only [List.countP_cons, List.countP_nil, he nb (fun e => hm e.symm)]
      omega
/-- A line joins two islands or none. -/
theorem cntF_more {es es' : List E2} {u v nb : Nat} (hadj : ∀ x y, Adj es' x y ↔ Adj es x y ∨ (x = u ∧ y = v) ∨ (x = v ∧ y = u)) (hu : u < nb) (hv : v < nb) :
    (Conn es u v → cntF es nb = cntF es' nb) ∧ (¬ Conn es u v → cntF es nb = cntF es' nb + 1) := by
  have hc : ∀ a b, Conn es' a b ↔ Conn es a b ∨ (Conn es a u ∧ Conn es v b) ∨ (Conn es a v ∧ Conn es u b) := fun a b => conn_more hadj
  constructor
  · intro h
    refine cntF_congr (fun a b => ?_) nb
    rw [hc]
    exact ⟨.inl, fun h2 => h2.elim id fun h3 => h3.elim (fun ⟨x, y⟩ => (x.trans h).trans y) (fun ⟨x, y⟩ => (x.trans h.symm).trans y)⟩
  · intro h
    -- the greater of both least vertices is least no more
    obtain ⟨u1, u2, u3⟩ := leastF_spec es u
    obtain ⟨v1, v2, v3⟩ := leastF_spec es v
    have hne : leastF es u ≠ leastF es v := fun e => h (leastF_eq.1 e)
    have key : ∀ (u v : Nat), u < nb → v < nb → (∀ a b, Conn es' a b ↔ Conn es a b ∨ (Conn es a u ∧ Conn es v b) ∨ (Conn es a v ∧ Conn es u b)) → ¬ Conn es u v → leastF es u < leastF es v → cntF es nb = cntF es' nb + 1 := by
      intro u v hu hv hc h hlt
      obtain ⟨u1, u2, u3⟩ := leastF_spec es u
      obtain ⟨v1, v2, v3⟩ := leastF_spec es v
      refine countP_but (m := leastF es v) (by omega) (by simp [leastF_self rfl]) ?_ ?_
      · have hcv : Conn es' (leastF es v) (leastF es u) := (hc _ _).2 (.inr (.inr ⟨v1.symm, u1⟩))
        have := (leastF_spec es' (leastF es v)).2.2 _ hcv
        rw [beq_eq_false_iff_ne]; omega
      · intro b hb
        obtain ⟨x1, x2, x3⟩ := leastF_spec es b
        obtain ⟨y1, y2, y3⟩ := leastF_spec es' b
        rw [Bool.eq_iff_iff, beq_iff_eq, beq_iff_eq]
        have le1 : leastF es' b ≤ leastF es b := y3 _ ((hc _ _).2 (.inl x1))
        constructor
        · intro e
          rcases (hc _ _).1 y1 with k | ⟨k1, k2⟩ | ⟨k1, k2⟩
          · have := x3 _ k; omega
          · -- b lies with u
            have e1 : leastF es b = leastF es u := leastF_eq.2 k1
            have := v3 _ k2
            omega
          · have e1 : leastF es b = leastF es v := leastF_eq.2 k1
            omega
        · intro e; omega
    rcases Nat.lt_or_ge (leastF es u) (leastF es v) with hlt | hge
    · exact key u v hu hv hc h hlt
    · refine key v u hv hu (fun a b => ?_) (fun k => h k.symm) (by omega)
      rw [hc]
      exact ⟨fun k => k.elim .inl fun k => k.elim (fun k => .inr (.inr k)) (fun k => .inr (.inl k)), fun k => k.elim .inl fun k => k.elim (fun k => .inr (.inr k)) (fun k => .inr (.inl k))⟩
theorem cntF_none (nb : Nat) : cntF [] nb = nb := by
  have hl : ∀ b, leastF [] b = b := fun b => by
    obtain ⟨h, _, _⟩ := leastF_spec [] b
    have : ∀ {a c : Nat}, Conn [] a c → a = c := fun h => by
      induction h with
      | refl => rfl
      | step _ hs _ => rcases hs with hs | hs <;> cases hs
    exact (this h).symm
  unfold cntF
  rw [List.countP_eq_length.2 (fun b _ => by rw [hl b]; simp)]
  simp
end Go.Proofs.YtobbmnbkjeoheaaDoor
