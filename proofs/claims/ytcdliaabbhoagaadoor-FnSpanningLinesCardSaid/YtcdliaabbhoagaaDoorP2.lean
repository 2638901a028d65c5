/- Sets of buses, plain facts: each bus has the number of another bus of its set, or its own. -/
import Derived.Test.YtcdliaabbhoagaaDoorBPC
namespace Go.Proofs.YtcdliaabbhoagaaDoor
open Go.RowKit

/-- Bus b stands behind r, d steps away. -/
inductive Rt (s : List Nat) : Nat → Nat → Nat → Prop
  | here {r : Nat} : s[r]? = some r → Rt s r r 0
  | up {b p r d : Nat} : s[b]? = some p → p ≠ b → Rt s p r d → Rt s b r (d + 1)
section
variable {s : List Nat} {a b r r' d d' x y : Nat}
theorem Rt.top (h : Rt s b r d) : s[r]? = some r := by
  induction h with
  | here h => exact h
  | up _ _ _ ih => exact ih
theorem Rt.one (h : Rt s b r d) (h' : Rt s b r' d') : r = r' := by
  induction h generalizing d' with
  | here h =>
    cases h' with
    | here _ => rfl
    | up h1 h2 _ => rw [h] at h1; injection h1 with h1; exact absurd h1.symm h2
  | up h1 h2 _ ih =>
    cases h' with
    | here h => rw [h1] at h; injection h with h; exact absurd h h2
    | up h3 _ h4 => rw [h1] at h3; injection h3 with h3; subst h3; exact ih h4
/-- The set of x goes into that of y. -/
theorem Rt.join (h : Rt s b r d) (hx : s[x]? = some x) (hy : s[y]? = some y) (hne : x ≠ y) : ∃ d', Rt (s.set x y) b (if r = x then y else r) d' := by
  have hxl : x < s.length := (List.getElem?_eq_some_iff.1 hx).1
  have hy' : (s.set x y)[y]? = some y := by rw [List.getElem?_set_ne hne]; exact hy
  induction h with
  | @here r h =>
    by_cases e : r = x
    · subst e
      rw [if_pos rfl]
      exact ⟨1, .up (List.getElem?_set_self hxl) (fun e => hne e.symm) (.here hy')⟩
    · rw [if_neg e]
      exact ⟨0, .here (by rw [List.getElem?_set_ne (fun e2 => e e2.symm)]; exact h)⟩
  | @up b p r d h1 h2 _ ih =>
    obtain ⟨d', ih⟩ := ih
    have hbx : x ≠ b := by
      intro e
      subst e
      rw [hx] at h1; injection h1 with h1; exact h2 h1.symm
    exact ⟨d' + 1, .up (by rw [List.getElem?_set_ne hbx]; exact h1) h2 ih⟩
end
/-- The sets are the islands of the lines es. -/
structure SetsInv (es : List E2) (nb : Nat) (s : List Nat) : Prop where
  len : s.length = nb
  root : ∀ b, b < nb → ∃ r d, Rt s b r d
  conn : ∀ a b r r' d d', a < nb → b < nb → Rt s a r d → Rt s b r' d' → (r = r' ↔ Conn es a b)
theorem Rt.lt {s : List Nat} {b r d : Nat} (h : Rt s b r d) : r < s.length := (List.getElem?_eq_some_iff.1 h.top).1
theorem sets_start (nb : Nat) : SetsInv [] nb (List.range nb) := by
  have hg : ∀ b, b < nb → (List.range nb)[b]? = some b := fun b h => List.getElem?_range h
  have only : ∀ {a b : Nat}, Conn [] a b → a = b := fun h => by
    induction h with
    | refl => rfl
    | step _ hs _ => rcases hs with hs | hs <;> cases hs
  refine ⟨by simp, fun b hb => ⟨b, 0, .here (hg b hb)⟩, fun a b r r' d d' ha hb h h' => ?_⟩
  rw [h.one (.here (hg a ha)), h'.one (.here (hg b hb))]
  exact ⟨fun e => e ▸ Conn.refl _, only⟩
theorem sets_join {es es' : List E2} {nb : Nat} {s : List Nat} {u v x y d d' : Nat} (h : SetsInv es nb s) (hadj : ∀ a b, Adj es' a b ↔ Adj es a b ∨ (a = u ∧ b = v) ∨ (a = v ∧ b = u)) (hu : u < nb) (hv : v < nb) (hx : Rt s u x d) (hy : Rt s v y d') (hne : x ≠ y) : SetsInv es' nb (s.set x y) := by
  have hX := hx.top
  have hY := hy.top
  refine ⟨by simpa using h.len, fun b hb => ?_, fun a b r r' e e' ha hb h1 h2 => ?_⟩
  · obtain ⟨r, d, hr⟩ := h.root b hb
    obtain ⟨d', hr'⟩ := hr.join hX hY hne
    exact ⟨_, d', hr'⟩
  · obtain ⟨ra, da, hra⟩ := h.root a ha
    obtain ⟨rb, db, hrb⟩ := h.root b hb
    obtain ⟨_, ha'⟩ := hra.join hX hY hne
    obtain ⟨_, hb'⟩ := hrb.join hX hY hne
    rw [h1.one ha', h2.one hb', conn_more hadj, ← h.conn a b ra rb da db ha hb hra hrb, ← h.conn a u ra x da d ha hu hra hx, ← h.conn v b y rb d' db hv hb hy hrb, ← h.conn a v ra y da d' ha hv hra hy, ← h.conn u b x rb d db hu hb hx hrb]
    split <;> split <;> omega
theorem sets_same {es es' : List E2} {nb : Nat} {s : List Nat} (h : SetsInv es nb s) (hc : ∀ a b, Conn es a b ↔ Conn es' a b) : SetsInv es' nb s :=
  ⟨h.len, h.root, fun a b r r' d d' ha hb h1 h2 => by rw [h.conn a b r r' d d' ha hb h1 h2, hc]⟩
end Go.Proofs.YtcdliaabbhoagaaDoor
