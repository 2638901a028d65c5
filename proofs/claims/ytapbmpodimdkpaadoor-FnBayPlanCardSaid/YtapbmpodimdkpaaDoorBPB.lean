/- Texts joined: Islands, plain facts: what is joined by lines, the least bus of an island, how many islands there are; Islands, plain facts: marks that spread along lines. -/
import Derived.Test.YtapbmpodimdkpaaDoorBPA

/- Islands, plain facts: what is joined by lines, the least bus of an island, how many islands there are. -/
namespace Go.Proofs.YtapbmpodimdkpaaDoor
open Go.RowKit

abbrev E2 := Nat × Nat
def Adj (es : List E2) (a b : Nat) : Prop := (a, b) ∈ es ∨ (b, a) ∈ es
theorem Adj.symm {es : List E2} {a b : Nat} (h : Adj es a b) : Adj es b a := h.elim .inr .inl
/-- Joined by lines, also by none. -/
inductive Conn (es : List E2) : Nat → Nat → Prop
  | refl (a : Nat) : Conn es a a
  | step {a b c : Nat} : Conn es a b → Adj es b c → Conn es a c
section
variable {es es' : List E2} {a b c u v : Nat}
theorem Conn.one (h : Adj es a b) : Conn es a b := (Conn.refl a).step h
theorem Conn.trans (h : Conn es a b) (k : Conn es b c) : Conn es a c := by
  induction k with
  | refl => exact h
  | step _ hs ih => exact ih.step hs
theorem Conn.symm (h : Conn es a b) : Conn es b a := by
  induction h with
  | refl => exact Conn.refl _
  | step _ hs ih => exact (Conn.one hs.symm).trans ih
theorem Conn.mono (h : Conn es a b) (hs : ∀ x y, Adj es x y → Adj es' x y) : Conn es' a b := by
  induction h with
  | refl => exact Conn.refl _
  | step _ h2 ih => exact ih.step (hs _ _ h2)
/-- What is joined to a vertex within bounds lies within bounds. -/
theorem Conn.lt {nb : Nat} (h : Conn es a b) (hes : ∀ e ∈ es, e.1 < nb ∧ e.2 < nb) (ha : a < nb) : b < nb := by
  induction h with
  | refl => exact ha
  | step _ hs _ =>
    rcases hs with hs | hs
    · exact (hes _ hs).2
    · exact (hes _ hs).1
/-- Whatever is closed under the lines and holds a holds all that is joined to it. -/
theorem Conn.closed {p : Nat → Prop} (hp : ∀ e ∈ es, p e.1 ↔ p e.2) (h : Conn es a b) (ha : p a) : p b := by
  induction h with
  | refl => exact ha
  | step _ hs ih =>
    rcases hs with hs | hs
    · exact (hp _ hs).1 ih
    · exact (hp _ hs).2 ih
/-- With one line more. -/
theorem conn_more (hadj : ∀ x y, Adj es' x y ↔ Adj es x y ∨ (x = u ∧ y = v) ∨ (x = v ∧ y = u)) :
    Conn es' a b ↔ Conn es a b ∨ (Conn es a u ∧ Conn es v b) ∨ (Conn es a v ∧ Conn es u b) := by
  have up : ∀ {x y}, Conn es x y → Conn es' x y := fun h => h.mono fun x y h2 => (hadj x y).2 (.inl h2)
  have uv : Conn es' u v := Conn.one ((hadj u v).2 (.inr (.inl ⟨rfl, rfl⟩)))
  constructor
  · intro h
    induction h with
    | refl => exact .inl (Conn.refl _)
    | step _ hs ih =>
      rcases (hadj _ _).1 hs with hs | ⟨rfl, rfl⟩ | ⟨rfl, rfl⟩
      · rcases ih with h | ⟨h1, h2⟩ | ⟨h1, h2⟩
        · exact .inl (h.step hs)
        · exact .inr (.inl ⟨h1, h2.step hs⟩)
        · exact .inr (.inr ⟨h1, h2.step hs⟩)
      · rcases ih with h | ⟨h1, h2⟩ | ⟨h1, h2⟩
        · exact .inr (.inl ⟨h, Conn.refl _⟩)
        · exact .inr (.inl ⟨h1, Conn.refl _⟩)
        · exact .inl h1
      · rcases ih with h | ⟨h1, h2⟩ | ⟨h1, h2⟩
        · exact .inr (.inr ⟨h, Conn.refl _⟩)
        · exact .inl h1
        · exact .inr (.inr ⟨h1, Conn.refl _⟩)
  · rintro (h | ⟨h1, h2⟩ | ⟨h1, h2⟩)
    · exact up h
    · exact ((up h1).trans uv).trans (up h2)
    · exact ((up h1).trans uv.symm).trans (up h2)
end

/-- The truth of it. -/
noncomputable def connB (es : List E2) (a b : Nat) : Bool := @decide (Conn es a b) (Classical.propDecidable _)
theorem connB_iff {es : List E2} {a b : Nat} : connB es a b = true ↔ Conn es a b := by
  unfold connB; exact @decide_eq_true_iff _ (Classical.propDecidable _)
theorem connB_no {es : List E2} {a b : Nat} : connB es a b = false ↔ ¬ Conn es a b := by
  rw [← connB_iff, Bool.not_eq_true]
theorem connB_symm (es : List E2) (a b : Nat) : connB es a b = connB es b a := by
  rw [Bool.eq_iff_iff, connB_iff, connB_iff]; exact ⟨Conn.symm, Conn.symm⟩
theorem connB_congr {es : List E2} {a b : Nat} (h : Conn es a b) (c : Nat) : connB es a c = connB es b c := by
  rw [Bool.eq_iff_iff, connB_iff, connB_iff]; exact ⟨fun k => h.symm.trans k, fun k => h.trans k⟩

/-- The least vertex that is joined to b. -/
noncomputable def leastF (es : List E2) (b : Nat) : Nat := ((List.range (b + 1)).find? (connB es b)).getD b
theorem leastF_spec (es : List E2) (b : Nat) : Conn es b (leastF es b) ∧ leastF es b ≤ b ∧ ∀ a, Conn es b a → leastF es b ≤ a := by
  unfold leastF
  rcases h : (List.range (b + 1)).find? (connB es b) with _ | m
  · rw [List.find?_eq_none] at h
    exact absurd (connB_iff.2 (Conn.refl b)) (by simpa using h b (by simp))
  · have h1 := List.find?_some h
    have h2 := List.mem_of_find?_eq_some h
    rw [List.mem_range] at h2
    refine ⟨connB_iff.1 h1, by simp; omega, fun a ha => ?_⟩
    simp only [Option.getD_some]
    rcases Nat.lt_or_ge a m with hlt | hge
    · rw [List.find?_eq_some_iff_append] at h
      obtain ⟨_, as, bs, hab, hn⟩ := h
      have hlen : as.length = m := by
        have e : (List.range (b + 1))[as.length]? = some m := by rw [hab]; simp
        rw [List.getElem?_range (by
          have := congrArg List.length hab; simp at this; omega)] at e
        exact Option.some.inj e
      have hm : a ∈ as := by
        have e : (List.range (b + 1))[a]? = some a := List.getElem?_range (by omega)
        rw [hab, List.getElem?_append_left (by omega)] at e
        exact List.mem_of_getElem? e
      have := hn a hm
      rw [connB_iff.2 ha] at this
      cases this
    · exact hge
theorem leastF_eq {es : List E2} {a b : Nat} : leastF es a = leastF es b ↔ Conn es a b := by
  obtain ⟨a1, _, a3⟩ := leastF_spec es a
  obtain ⟨b1, _, b3⟩ := leastF_spec es b
  constructor
  · intro h; rw [h] at a1; exact a1.trans b1.symm
  · intro h
    exact Nat.le_antisymm (a3 _ (h.trans b1)) (b3 _ (h.symm.trans a1))
theorem leastF_self {es : List E2} {a b : Nat} (h : leastF es a = b) : leastF es b = b := by
  have := leastF_eq.2 (leastF_spec es a).1
  rw [h] at this
  exact this.symm
theorem leastF_congr {es es' : List E2} (h : ∀ a b, Conn es a b ↔ Conn es' a b) (b : Nat) : leastF es b = leastF es' b := by
  obtain ⟨a1, _, a3⟩ := leastF_spec es b
  obtain ⟨b1, _, b3⟩ := leastF_spec es' b
  exact Nat.le_antisymm (a3 _ ((h _ _).2 b1)) (b3 _ ((h _ _).1 a1))

/-- How many islands nb vertices have. -/
noncomputable def cntF (es : List E2) (nb : Nat) : Nat := (List.range nb).countP fun b => leastF es b == b
theorem cntF_congr {es es' : List E2} (h : ∀ a b, Conn es a b ↔ Conn es' a b) (nb : Nat) : cntF es nb = cntF es' nb := by
  unfold cntF
  exact List.countP_congr fun b _ => by rw [leastF_congr h b]
theorem countP_but {p q : Nat → Bool} {m : Nat} : ∀ {nb : Nat}, m < nb → p m = true → q m = false → (∀ b, b ≠ m → p b = q b) → (List.range nb).countP p = (List.range nb).countP q + 1
  | 0, h, _, _, _ => absurd h (by omega)
  | nb + 1, h, hp, hq, he => by
    rw [List.range_succ, List.countP_append, List.countP_append]
    by_cases hm : m = nb
    · subst hm
      have e : (List.range m).countP p = (List.range m).countP q := List.countP_congr fun b hb => by
        have : b ≠ m := by have := List.mem_range.1 hb; omega
        rw [he b this]
      simp [e, hp, hq]
    · have ih := countP_but (nb := nb) (by omega) hp hq he
      have e2 : List.countP p [nb] = List.countP q [nb] := by
        simp only [List.countP_cons, List.countP_nil, he nb (fun e => hm e.symm)]
      omega
/-- A line joins two islands or none. -/
theorem cntF_more {es es' : List E2} {u v nb : Nat} (hadj : ∀ x y, Adj es' x y ↔ Adj es x y ∨ (x = u ∧ y = v) ∨ (x = v ∧ y = u)) (hu : u < nb) (hv : v < nb) :
    (Conn es u v → cntF es nb = cntF es' nb) ∧ (¬ Conn es u v → cntF es nb = cntF es' nb + 1) := by
  have hc : ∀ a b, Conn es' a b ↔ Conn es a b ∨ (Conn es a u ∧ Conn es v b) ∨ (Conn es a v ∧ Conn es u b) := fun a b => conn_more hadj
  constructor
  · intro h
    refine cntF_congr (fun a b => ?_) nb
    rw [hc]
    exact ⟨.inl, fun h2 => h2.elim id fun h3 => h3.elim (fun ⟨x, y⟩ => (x.trans h).trans y) (fun ⟨x, y⟩ => (x.trans h.symm).trans y)⟩
  · intro h
    -- the greater of both least vertices is least no more
    obtain ⟨u1, u2, u3⟩ := leastF_spec es u
    obtain ⟨v1, v2, v3⟩ := leastF_spec es v
    have hne : leastF es u ≠ leastF es v := fun e => h (leastF_eq.1 e)
    have key : ∀ (u v : Nat), u < nb → v < nb → (∀ a b, Conn es' a b ↔ Conn es a b ∨ (Conn es a u ∧ Conn es v b) ∨ (Conn es a v ∧ Conn es u b)) → ¬ Conn es u v → leastF es u < leastF es v → cntF es nb = cntF es' nb + 1 := by
      intro u v hu hv hc h hlt
      obtain ⟨u1, u2, u3⟩ := leastF_spec es u
      obtain ⟨v1, v2, v3⟩ := leastF_spec es v
      refine countP_but (m := leastF es v) (by omega) (by simp [leastF_self rfl]) ?_ ?_
      · have hcv : Conn es' (leastF es v) (leastF es u) := (hc _ _).2 (.inr (.inr ⟨v1.symm, u1⟩))
        have := (leastF_spec es' (leastF es v)).2.2 _ hcv
        rw [beq_eq_false_iff_ne]; omega
      · intro b hb
        obtain ⟨x1, x2, x3⟩ := leastF_spec es b
        obtain ⟨y1, y2, y3⟩ := leastF_spec es' b
        rw [Bool.eq_iff_iff, beq_iff_eq, beq_iff_eq]
        have le1 : leastF es' b ≤ leastF es b := y3 _ ((hc _ _).2 (.inl x1))
        constructor
        · intro e
          rcases (hc _ _).1 y1 with k | ⟨k1, k2⟩ | ⟨k1, k2⟩
          · have := x3 _ k; omega
          · -- b lies with u
            have e1 : leastF es b = leastF es u := leastF_eq.2 k1
            have := v3 _ k2
            omega
          · have e1 : leastF es b = leastF es v := leastF_eq.2 k1
            omega
        · intro e; omega
    rcases Nat.lt_or_ge (leastF es u) (leastF es v) with hlt | hge
    · exact key u v hu hv hc h hlt
    · refine key v u hv hu (fun a b => ?_) (fun k => h k.symm) (by omega)
      rw [hc]
      exact ⟨fun k => k.elim .inl fun k => k.elim (fun k => .inr (.inr k)) (fun k => .inr (.inl k)), fun k => k.elim .inl fun k => k.elim (fun k => .inr (.inr k)) (fun k => .inr (.inl k))⟩
theorem cntF_none (nb : Nat) : cntF [] nb = nb := by
  have hl : ∀ b, leastF [] b = b := fun b => by
    obtain ⟨h, _, _⟩ := leastF_spec [] b
    have : ∀ {a c : Nat}, Conn [] a c → a = c := fun h => by
      induction h with
      | refl => rfl
      | step _ hs _ => rcases hs with hs | hs <;> cases hs
    exact (this h).symm
  unfold cntF
  rw [List.countP_eq_length.2 (fun b _ => by rw [hl b]; simp)]
  simp
end Go.Proofs.YtapbmpodimdkpaaDoor

/- Islands, plain facts: marks that spread along lines. -/
namespace Go.Proofs.YtapbmpodimdkpaaDoor
open Go.RowKit

/-- The lines that are on, as pairs of buses. -/
def edgesOn (ls : List L3) (ts : List Bool) : List E2 := ((ls.zip ts).filter (·.2)).map fun x => (x.1.1.toNat, x.1.2.1.toNat)
theorem zip_get {α β : Type} : ∀ {xs : List α} {ys : List β} {k : Nat}, (xs.zip ys)[k]? = match xs[k]?, ys[k]? with | some a, some b => some (a, b) | _, _ => none
  | [], ys, k => by simp
  | x :: xs, [], k => by simp
  | x :: xs, y :: ys, 0 => by simp
  | x :: xs, y :: ys, k + 1 => by simpa using zip_get (xs := xs) (ys := ys) (k := k)
theorem zip_some {ls : List L3} {ts : List Bool} {k : Nat} {l : L3} {t : Bool} : (ls.zip ts)[k]? = some (l, t) ↔ ls[k]? = some l ∧ ts[k]? = some t := by
  rw [zip_get]
  cases ls[k]? <;> cases ts[k]? <;> simp
theorem mem_edgesOn {ls : List L3} {ts : List Bool} {e : E2} : e ∈ edgesOn ls ts ↔ ∃ (k : Nat) (l : L3), ls[k]? = some l ∧ ts[k]? = some true ∧ e = (l.1.toNat, l.2.1.toNat) := by
  unfold edgesOn
  rw [List.mem_map]
  constructor
  · rintro ⟨⟨l, t⟩, hx, rfl⟩
    rw [List.mem_filter] at hx
    obtain ⟨hx, ht⟩ := hx
    simp only at ht
    subst ht
    obtain ⟨k, hk⟩ := List.mem_iff_getElem?.1 hx
    obtain ⟨h1, h2⟩ := zip_some.1 hk
    exact ⟨k, l, h1, h2, rfl⟩
  · rintro ⟨k, l, h1, h2, rfl⟩
    exact ⟨(l, true), List.mem_filter.2 ⟨List.mem_iff_getElem?.2 ⟨k, zip_some.2 ⟨h1, h2⟩⟩, rfl⟩, rfl⟩
theorem edgesOn_lt {bs : Int} {ls : List L3} (h : netOk bs ls = true) (ts : List Bool) : ∀ e ∈ edgesOn ls ts, e.1 < bs.toNat ∧ e.2 < bs.toNat := by
  intro e he
  obtain ⟨k, l, h1, _, rfl⟩ := mem_edgesOn.1 he
  have h2 := netOk_line h h1
  simp [lineOk, inB] at h2
  simp only
  omega

noncomputable def reachL (es : List E2) (nb bus : Nat) : List Bool := (List.range nb).map (connB es bus)
theorem reachL_len (es : List E2) (nb bus : Nat) : (reachL es nb bus).length = nb := by simp [reachL]
theorem reachL_get {es : List E2} {nb bus b : Nat} (h : b < nb) : (reachL es nb bus)[b]? = some (connB es bus b) := by
  rw [reachL, List.getElem?_map, List.getElem?_range h]; rfl
theorem getD_get {s : List Bool} {b : Nat} (h : b < s.length) : s[b]? = some (s.getD b false) := by
  rw [List.getD_eq_getElem?_getD, List.getElem?_eq_getElem h]; rfl
/-- What is sound and closed is what is reached. -/
theorem seen_eq {es : List E2} {nb bus : Nat} {s : List Bool} (hl : s.length = nb) (hs : ∀ b, s.getD b false = true → Conn es bus b) (hb : s.getD bus false = true) (hc : ∀ e ∈ es, s.getD e.1 false = s.getD e.2 false) : s = reachL es nb bus := by
  apply List.ext_getElem?
  intro b
  rcases Nat.lt_or_ge b nb with h | h
  · rw [reachL_get h, getD_get (by omega)]
    congr 1
    rw [Bool.eq_iff_iff, connB_iff]
    exact ⟨hs b, fun k => Conn.closed (p := fun x => s.getD x false = true) (fun e he => by rw [hc e he]) k hb⟩
  · rw [List.getElem?_eq_none (by omega), List.getElem?_eq_none (by rw [reachL_len]; exact h)]

/-- One line: where one end is marked, both are. -/
def stepL (s : List Bool) (x : L3 × Bool) : List Bool := if x.2 = true ∧ (s.getD x.1.1.toNat false = true ∨ s.getD x.1.2.1.toNat false = true) then (s.set x.1.1.toNat true).set x.1.2.1.toNat true else s
def passTo (ls : List L3) (ts : List Bool) (s : List Bool) (k : Nat) : List Bool := ((ls.zip ts).take k).foldl stepL s
def passF (ls : List L3) (ts : List Bool) (s : List Bool) : List Bool := (ls.zip ts).foldl stepL s
theorem stepL_len (s : List Bool) (x : L3 × Bool) : (stepL s x).length = s.length := by unfold stepL; split <;> simp
theorem foldl_len (xs : List (L3 × Bool)) : ∀ s : List Bool, (xs.foldl stepL s).length = s.length := by
  induction xs with
  | nil => intro s; rfl
  | cons x xs ih => intro s; rw [List.foldl_cons, ih, stepL_len]
theorem passTo_succ {ls : List L3} {ts s : List Bool} {k : Nat} {l : L3} {t : Bool} (h1 : ls[k]? = some l) (h2 : ts[k]? = some t) : passTo ls ts s (k + 1) = stepL (passTo ls ts s k) (l, t) := by
  unfold passTo
  rw [List.take_add_one, zip_some.2 ⟨h1, h2⟩, List.foldl_append]; rfl
theorem passTo_all {ls : List L3} {ts s : List Bool} (h : ls.length = ts.length) : passTo ls ts s ls.length = passF ls ts s := by
  unfold passTo passF
  rw [List.take_of_length_le (by rw [List.length_zip]; omega)]
theorem set2_getD {s : List Bool} {a b c : Nat} : ((s.set a true).set b true).getD c false = true → s.getD c false = true ∨ c = a ∨ c = b := by
  intro h
  simp only [List.getD_eq_getElem?_getD, List.getElem?_set, List.length_set] at h
  split at h
  · rename_i e; exact .inr (.inr e.symm)
  · split at h
    · rename_i e; exact .inr (.inl e.symm)
    · exact .inl (by rw [List.getD_eq_getElem?_getD]; exact h)
theorem set2_keep {s : List Bool} {a b c : Nat} (h : s.getD c false = true) : ((s.set a true).set b true).getD c false = true := by
  have hl : c < s.length := by
    rcases Nat.lt_or_ge c s.length with h2 | h2
    · exact h2
    · rw [List.getD_eq_getElem?_getD, List.getElem?_eq_none h2] at h; cases h
  simp only [List.getD_eq_getElem?_getD, List.getElem?_set, List.length_set]
  split
  · rename_i e; subst e; simp [hl]
  · split
    · rename_i e; subst e; simp [hl]
    · rw [← List.getD_eq_getElem?_getD]; exact h
theorem set2_in {s : List Bool} {a b : Nat} (ha : a < s.length) (hb : b < s.length) : ((s.set a true).set b true).getD a false = true ∧ ((s.set a true).set b true).getD b false = true := by
  constructor
  · simp only [List.getD_eq_getElem?_getD, List.getElem?_set, List.length_set]
    split <;> simp
  · simp [List.getD_eq_getElem?_getD, hb]
theorem stepL_keep {s : List Bool} {x : L3 × Bool} {c : Nat} (h : s.getD c false = true) : (stepL s x).getD c false = true := by
  unfold stepL; split
  · exact set2_keep h
  · exact h
theorem foldl_keep (xs : List (L3 × Bool)) : ∀ {s : List Bool} {c : Nat}, s.getD c false = true → (xs.foldl stepL s).getD c false = true := by
  induction xs with
  | nil => intro s c h; exact h
  | cons x xs ih => intro s c h; exact ih (stepL_keep h)
theorem stepL_sound {es : List E2} {bus : Nat} {s : List Bool} {l : L3} {t : Bool} (h : ∀ b, s.getD b false = true → Conn es bus b) (he : t = true → (l.1.toNat, l.2.1.toNat) ∈ es) : ∀ b, (stepL s (l, t)).getD b false = true → Conn es bus b := by
  intro b hb
  unfold stepL at hb
  split at hb
  · rename_i hc
    obtain ⟨h1, h2⟩ := hc
    have ha : Adj es l.1.toNat l.2.1.toNat := .inl (he h1)
    have hboth : Conn es bus l.1.toNat ∧ Conn es bus l.2.1.toNat := by
      rcases h2 with h2 | h2
      · exact ⟨h _ h2, (h _ h2).step ha⟩
      · exact ⟨(h _ h2).step ha.symm, h _ h2⟩
    rcases set2_getD hb with h3 | rfl | rfl
    · exact h _ h3
    · exact hboth.1
    · exact hboth.2
  · exact h _ hb
theorem passTo_sound {ls : List L3} {ts s : List Bool} {bus : Nat} (h : ∀ b, s.getD b false = true → Conn (edgesOn ls ts) bus b) (k : Nat) : ∀ b, (passTo ls ts s k).getD b false = true → Conn (edgesOn ls ts) bus b := by
  induction k with
  | zero => exact h
  | succ k ih =>
    rcases hz : (ls.zip ts)[k]? with _ | ⟨l, t⟩
    · have : passTo ls ts s (k + 1) = passTo ls ts s k := by unfold passTo; rw [List.take_add_one, hz]; simp
      rw [this]; exact ih
    · obtain ⟨h1, h2⟩ := zip_some.1 hz
      rw [passTo_succ h1 h2]
      exact stepL_sound ih (fun ht => mem_edgesOn.2 ⟨k, l, h1, by rw [h2, ht], rfl⟩)
theorem bools_eq {s s' : List Bool} (hl : s.length = s'.length) (h1 : ∀ c, s.getD c false = true → s'.getD c false = true) (h2 : ∀ c, s'.getD c false = true → s.getD c false = true) : s = s' := by
  apply List.ext_getElem?
  intro b
  rcases Nat.lt_or_ge b s.length with h | h
  · rw [getD_get h, getD_get (by omega)]
    congr 1
    rw [Bool.eq_iff_iff]; exact ⟨h1 b, h2 b⟩
  · rw [List.getElem?_eq_none h, List.getElem?_eq_none (by omega)]
/-- A pass that marks nothing more: all is closed. -/
theorem pass_fixed {bs : Int} {ls : List L3} {ts s : List Bool} (hv : netOk bs ls = true) (hs : s.length = bs.toNat) (h : passF ls ts s = s) : ∀ e ∈ edgesOn ls ts, s.getD e.1 false = s.getD e.2 false := by
  intro e he
  have hlt := edgesOn_lt hv ts e he
  obtain ⟨k, l, h1, h2, rfl⟩ := mem_edgesOn.1 he
  simp only at hlt
  -- at its turn the marks are those of the end
  have hz := zip_some.2 ⟨h1, h2⟩
  have hsplit : ls.zip ts = (ls.zip ts).take k ++ (l, true) :: (ls.zip ts).drop (k + 1) := by
    obtain ⟨hlt2, e⟩ := List.getElem?_eq_some_iff.1 hz
    rw [← e, List.getElem_cons_drop, List.take_append_drop]
  have hend : passF ls ts s = ((ls.zip ts).drop (k + 1)).foldl stepL (stepL (passTo ls ts s k) (l, true)) := by
    unfold passF passTo
    conv => lhs; rw [hsplit]
    rw [List.foldl_append, List.foldl_cons]
  have hlen : (passTo ls ts s k).length = bs.toNat := by unfold passTo; rw [foldl_len, hs]
  have hmid : passTo ls ts s k = s := by
    apply bools_eq (by rw [hlen, hs])
    · intro c hc
      have := foldl_keep ((ls.zip ts).drop (k + 1)) (stepL_keep (x := (l, true)) hc)
      rw [← hend, h] at this; exact this
    · intro c hc; exact foldl_keep _ hc
  have both : (s.getD l.1.toNat false = true ∨ s.getD l.2.1.toNat false = true) → s.getD l.1.toNat false = true ∧ s.getD l.2.1.toNat false = true := by
    intro ho
    have hst : stepL s (l, true) = (s.set l.1.toNat true).set l.2.1.toNat true := by
      unfold stepL; rw [if_pos ⟨rfl, ho⟩]
    rw [hmid, hst] at hend
    have hi := set2_in (s := s) (a := l.1.toNat) (b := l.2.1.toNat) (by omega) (by omega)
    have k1 := foldl_keep ((ls.zip ts).drop (k + 1)) hi.1
    have k2 := foldl_keep ((ls.zip ts).drop (k + 1)) hi.2
    rw [← hend, h] at k1 k2
    exact ⟨k1, k2⟩
  show s.getD l.1.toNat false = s.getD l.2.1.toNat false
  cases ha : s.getD l.1.toNat false <;> cases hb : s.getD l.2.1.toNat false
  · rfl
  · have := (both (.inr hb)).1; rw [ha] at this; cases this
  · have := (both (.inl ha)).2; rw [hb] at this; cases this
  · rfl
/-- Marks that grow: one more at least. -/
theorem count_grow : ∀ {s s' : List Bool}, s.length = s'.length → (∀ c, s.getD c false = true → s'.getD c false = true) → s.countP id ≤ s'.countP id ∧ (s ≠ s' → s.countP id + 1 ≤ s'.countP id)
  | [], [], _, _ => by simp
  | [], _ :: _, h, _ => by simp at h
  | _ :: _, [], h, _ => by simp at h
  | a :: s, b :: s', h, hk => by
    have h0 := hk 0
    have ih := count_grow (s := s) (s' := s') (by simpa using h) (fun c hc => by simpa using hk (c + 1) (by simpa using hc))
    simp only [List.getD_cons_zero] at h0
    rw [List.countP_cons, List.countP_cons]
    cases a <;> cases b
    · refine ⟨by simpa using ih.1, fun hne => ?_⟩
      simpa using ih.2 (fun e => hne (by rw [e]))
    · have := ih.1; exact ⟨by simp; omega, fun _ => by simp; omega⟩
    · exact absurd (h0 rfl) (by decide)
    · refine ⟨by simpa using ih.1, fun hne => ?_⟩
      have := ih.2 (fun e => hne (by rw [e]))
      simp; omega
theorem passF_len (ls : List L3) (ts s : List Bool) : (passF ls ts s).length = s.length := foldl_len _ _
def iterP (ls : List L3) (ts : List Bool) : Nat → List Bool → List Bool
  | 0, s => s
  | j + 1, s => passF ls ts (iterP ls ts j s)
theorem iterP_len (ls : List L3) (ts s : List Bool) (j : Nat) : (iterP ls ts j s).length = s.length := by
  induction j with
  | zero => rfl
  | succ j ih => rw [iterP, passF_len, ih]
theorem iterP_grow {ls : List L3} {ts s : List Bool} (hs : 1 ≤ s.countP id) (j : Nat) : j + 1 ≤ (iterP ls ts j s).countP id ∨ passF ls ts (iterP ls ts j s) = iterP ls ts j s := by
  induction j with
  | zero => exact .inl hs
  | succ j ih =>
    by_cases h : passF ls ts (iterP ls ts j s) = iterP ls ts j s
    · refine .inr ?_
      rw [iterP, h, h]
    · rcases ih with ih | ih
      · refine .inl ?_
        have := (count_grow (s := iterP ls ts j s) (s' := passF ls ts (iterP ls ts j s)) (passF_len _ _ _).symm (fun c hc => foldl_keep _ hc)).2 (fun e => h e.symm)
        rw [iterP]; omega
      · exact absurd ih h
/-- As many passes as there are buses mark all that is reached. -/
theorem iterP_reach {bs : Int} {ls : List L3} {ts : List Bool} {bus : Nat} (hv : netOk bs ls = true) (hb : bus < bs.toNat) : iterP ls ts bs.toNat ((List.replicate bs.toNat false).set bus true) = reachL (edgesOn ls ts) bs.toNat bus := by
  have hl0 : ((List.replicate bs.toNat false).set bus true).length = bs.toNat := by simp
  have hb0 : ((List.replicate bs.toNat false).set bus true).getD bus false = true := by simp [List.getD_eq_getElem?_getD, hb]
  have hs0 : ∀ c, ((List.replicate bs.toNat false).set bus true).getD c false = true → Conn (edgesOn ls ts) bus c := by
    intro c hc
    simp only [List.getD_eq_getElem?_getD, List.getElem?_set, List.length_replicate, List.getElem?_replicate] at hc
    split at hc
    · rename_i e; subst e; exact Conn.refl _
    · split at hc <;> simp at hc
  generalize (List.replicate bs.toNat false).set bus true = s at *
  have hlen := iterP_len ls ts s bs.toNat
  have hc1 : 1 ≤ s.countP id := by
    have : 0 < s.countP id := by
      rw [List.countP_pos_iff]
      exact ⟨true, by rw [List.mem_iff_getElem?]; exact ⟨bus, by rw [getD_get (by omega), hb0]⟩, rfl⟩
    omega
  have keep : ∀ j c, s.getD c false = true → (iterP ls ts j s).getD c false = true := by
    intro j c hc
    induction j with
    | zero => exact hc
    | succ j ih => exact foldl_keep _ ih
  have sound : ∀ j c, (iterP ls ts j s).getD c false = true → Conn (edgesOn ls ts) bus c := by
    intro j
    induction j with
    | zero => exact hs0
    | succ j ih =>
      have := passTo_sound (ls := ls) (ts := ts) (s := iterP ls ts j s) ih (ls.zip ts).length
      unfold passTo at this
      rw [List.take_length] at this
      exact this
  refine seen_eq (by rw [hlen, hl0]) (sound _) (keep _ _ hb0) ?_
  rcases iterP_grow (ls := ls) (ts := ts) hc1 bs.toNat with h | h
  · have := List.countP_le_length (p := id) (l := iterP ls ts bs.toNat s)
    omega
  · exact pass_fixed hv (by rw [hlen, hl0]) h

/-- The buses that are reached, in ascending order. -/
noncomputable def reachF (es : List E2) (nb bus : Nat) : List Nat := (List.range nb).filter (connB es bus)
theorem mem_reachF {es : List E2} {nb bus b : Nat} : b ∈ reachF es nb bus ↔ b < nb ∧ Conn es bus b := by
  rw [reachF, List.mem_filter, List.mem_range, connB_iff]
theorem reachF_congr {es : List E2} {nb a b : Nat} (h : Conn es a b) : reachF es nb a = reachF es nb b := by
  unfold reachF
  exact List.filter_congr fun c _ => connB_congr h c
theorem reachF_head {es : List E2} {nb bus : Nat} (hb : bus < nb) : (reachF es nb bus).head? = some (leastF es bus) := by
  obtain ⟨h1, h2, h3⟩ := leastF_spec es bus
  unfold reachF
  rw [List.head?_filter, List.find?_eq_some_iff_append]
  refine ⟨connB_iff.2 h1, List.range (leastF es bus), (List.range' (leastF es bus + 1) (nb - leastF es bus - 1)), ?_, fun a ha => ?_⟩
  · have e1 : List.range nb = List.range (leastF es bus) ++ List.range' (leastF es bus) (nb - leastF es bus) := by
      have h := List.range'_append_1 (s := 0) (m := leastF es bus) (n := nb - leastF es bus)
      rw [Nat.zero_add] at h
      rw [List.range_eq_range', List.range_eq_range', h]
      congr 1; omega
    rw [e1]
    congr 1
    obtain ⟨d, hd⟩ : ∃ d, nb - leastF es bus = d + 1 := ⟨nb - leastF es bus - 1, by omega⟩
    rw [hd, List.range'_succ]; congr 1
  · have := List.mem_range.1 ha
    rw [Bool.not_eq_true', connB_no]
    intro hc
    have := h3 _ hc
    omega
end Go.Proofs.YtapbmpodimdkpaaDoor
