/- Permits, plain facts (no program): valid work, who has a permit, deeds, runs of them, how all work ends. -/
import Derived.Test.YtafgfhjlkdjngaaBPA
namespace Go.Proofs.Ytafgfhjlkdjngaa

/-- Work: which lines are on, which are earthed, the permits (who, at). A deed: its kind, its line, who. -/
abbrev Wk := List Bool × List Bool × List (Int × Int)
abbrev Dd := Int × Int × Int
def atW (ts : List Bool) (z : Int) : Bool := ts.getD z.toNat false
def inW (n : Nat) (z : Int) : Bool := decide (0 ≤ z) && decide (z < (n : Int))
def perOk (n : Nat) (e : List Bool) (p : Int × Int) : Bool := (decide (0 ≤ p.1) && decide (p.1 ≤ 9)) && inW n p.2 && atW e p.2
def apartW (a e : List Bool) : Bool := (List.range a.length).all fun k => !(a.getD k false && e.getD k false)
def wkOk (w : Wk) : Bool := (decide (1 ≤ w.1.length) && decide (w.1.length ≤ 10)) && decide (w.1.length = w.2.1.length) && decide (w.2.2.length ≤ 6) && apartW w.1 w.2.1 && (w.2.2.all (perOk w.1.length w.2.1) && decide w.2.2.Nodup)
structure WkOk (a e : List Bool) (ps : List (Int × Int)) : Prop where
  n1 : 1 ≤ a.length
  n10 : a.length ≤ 10
  ae : a.length = e.length
  p6 : ps.length ≤ 6
  apart : ∀ k, k < a.length → a.getD k false = true → e.getD k false = false
  per : ∀ p ∈ ps, 0 ≤ p.1 ∧ p.1 ≤ 9 ∧ 0 ≤ p.2 ∧ p.2 < (a.length : Int) ∧ e.getD p.2.toNat false = true
  nd : ps.Nodup
theorem perOk_iff {n : Nat} {e : List Bool} {p : Int × Int} : perOk n e p = true ↔ 0 ≤ p.1 ∧ p.1 ≤ 9 ∧ 0 ≤ p.2 ∧ p.2 < (n : Int) ∧ e.getD p.2.toNat false = true := by
  simp only [perOk, inW, atW, Bool.and_eq_true, decide_eq_true_eq]
  exact ⟨fun ⟨⟨⟨h1, h2⟩, h3, h4⟩, h5⟩ => ⟨h1, h2, h3, h4, h5⟩, fun ⟨h1, h2, h3, h4, h5⟩ => ⟨⟨⟨h1, h2⟩, h3, h4⟩, h5⟩⟩
theorem apartW_iff {a e : List Bool} : apartW a e = true ↔ ∀ k, k < a.length → a.getD k false = true → e.getD k false = false := by
  rw [apartW, List.all_eq_true]
  constructor
  · intro h k hk ha
    have := h k (List.mem_range.2 hk)
    rw [ha] at this
    simpa using this
  · intro h k hk
    have := h k (List.mem_range.1 hk)
    revert this
    cases a.getD k false <;> cases e.getD k false <;> simp
theorem wkOk_iff {a e : List Bool} {ps : List (Int × Int)} : wkOk (a, e, ps) = true ↔ WkOk a e ps := by
  simp only [wkOk, Bool.and_eq_true, decide_eq_true_eq, apartW_iff, List.all_eq_true, perOk_iff]
  constructor
  · rintro ⟨⟨⟨⟨⟨h1, h2⟩, h3⟩, h4⟩, h5⟩, h6, h7⟩
    exact ⟨h1, h2, h3, h4, h5, h6, h7⟩
  · rintro ⟨h1, h2, h3, h4, h5, h6, h7⟩
    exact ⟨⟨⟨⟨⟨h1, h2⟩, h3⟩, h4⟩, h5⟩, h6, h7⟩

/-! Who has a permit; what may be done -/
def heldL (ps : List (Int × Int)) (z : Int) : List Int := (ps.filter fun p => p.2 == z).map (·.1)
def heldF (w : Wk) (z : Int) : List Int := if wkOk w = true then heldL w.2.2 z else []
def mayW (w : Wk) (d : Dd) : Bool :=
  if d.1 = 0 then !atW w.1 d.2.1 && !atW w.2.1 d.2.1
  else if d.1 = 1 then atW w.1 d.2.1
  else if d.1 = 2 then !atW w.1 d.2.1 && !atW w.2.1 d.2.1
  else if d.1 = 3 then atW w.2.1 d.2.1 && (heldL w.2.2 d.2.1).isEmpty
  else if d.1 = 4 then atW w.2.1 d.2.1 && (decide (0 ≤ d.2.2) && decide (d.2.2 ≤ 9)) && decide ((d.2.2, d.2.1) ∉ w.2.2) && decide (w.2.2.length < 6)
  else if d.1 = 5 then decide ((d.2.2, d.2.1) ∈ w.2.2)
  else false
def doW (w : Wk) (d : Dd) : Wk :=
  if d.1 = 0 then (w.1.set d.2.1.toNat true, w.2.1, w.2.2)
  else if d.1 = 1 then (w.1.set d.2.1.toNat false, w.2.1, w.2.2)
  else if d.1 = 2 then (w.1, w.2.1.set d.2.1.toNat true, w.2.2)
  else if d.1 = 3 then (w.1, w.2.1.set d.2.1.toNat false, w.2.2)
  else if d.1 = 4 then (w.1, w.2.1, w.2.2 ++ [(d.2.2, d.2.1)])
  else (w.1, w.2.1, w.2.2.erase (d.2.2, d.2.1))
def canW (w : Wk) (d : Dd) : Bool := inW w.1.length d.2.1 && mayW w d
def workDoF (w : Wk) (d : Dd) : Wk := if wkOk w = true then (if canW w d = true then doW w d else w) else ([], [], [])
def workDoB (w : Wk) (d : Dd) : Bool := wkOk w && canW w d

theorem getD_set {ts : List Bool} {j k : Nat} {t : Bool} (hj : j < ts.length) : (ts.set j t).getD k false = if k = j then t else ts.getD k false := by
  rw [List.getD_eq_getElem?_getD, List.getElem?_set]
  by_cases h : j = k
  · subst h; simp [hj]
  · rw [if_neg h, if_neg (fun e => h e.symm), List.getD_eq_getElem?_getD]
theorem kinds {d : Dd} {w : Wk} (h : mayW w d = true) : d.1 = 0 ∨ d.1 = 1 ∨ d.1 = 2 ∨ d.1 = 3 ∨ d.1 = 4 ∨ d.1 = 5 := by
  unfold mayW at h
  by_cases h0 : d.1 = 0; · exact .inl h0
  by_cases h1 : d.1 = 1; · exact .inr (.inl h1)
  by_cases h2 : d.1 = 2; · exact .inr (.inr (.inl h2))
  by_cases h3 : d.1 = 3; · exact .inr (.inr (.inr (.inl h3)))
  by_cases h4 : d.1 = 4; · exact .inr (.inr (.inr (.inr (.inl h4))))
  by_cases h5 : d.1 = 5; · exact .inr (.inr (.inr (.inr (.inr h5))))
  rw [if_neg h0, if_neg h1, if_neg h2, if_neg h3, if_neg h4, if_neg h5] at h; cases h
theorem mem_heldL {ps : List (Int × Int)} {z x : Int} : x ∈ heldL ps z ↔ (x, z) ∈ ps := by
  simp only [heldL, List.mem_map, List.mem_filter]
  constructor
  · rintro ⟨⟨a, b⟩, ⟨h1, h2⟩, rfl⟩
    have : b = z := by simpa using h2
    rw [← this]; exact h1
  · intro h; exact ⟨(x, z), ⟨h, by simp⟩, rfl⟩
theorem held_empty {ps : List (Int × Int)} {z : Int} (h : (heldL ps z).isEmpty = true) : ∀ p ∈ ps, p.2 ≠ z := by
  intro p hp e
  have h2 : heldL ps z = [] := List.isEmpty_iff.1 h
  have : p.1 ∈ heldL ps z := mem_heldL.2 (by rw [← e]; exact hp)
  rw [h2] at this; cases this
/-- Deeds that may be done keep work valid. -/
theorem wk_do {a e : List Bool} {ps : List (Int × Int)} {d : Dd} (h : WkOk a e ps) (hc : canW (a, e, ps) d = true) : wkOk (doW (a, e, ps) d) = true := by
  obtain ⟨k, z, x⟩ := d
  rw [canW, Bool.and_eq_true] at hc
  obtain ⟨hin, hm⟩ := hc
  simp only [inW, Bool.and_eq_true, decide_eq_true_eq] at hin
  obtain ⟨j, rfl⟩ := Int.eq_ofNat_of_zero_le hin.1
  have hj : j < a.length := by omega
  have hje : j < e.length := by have := h.ae; omega
  rcases kinds hm with hk | hk | hk | hk | hk | hk
  all_goals
    simp only at hk
    subst hk
    simp only [mayW, doW, atW, Int.toNat_natCast] at hm ⊢
    simp at hm ⊢
    rw [wkOk_iff]
  · refine ⟨by simpa using h.n1, by simpa using h.n10, by simpa using h.ae, h.p6, fun k hk ha => ?_, by simpa using h.per, h.nd⟩
    rw [getD_set hj] at ha
    split at ha
    · rename_i e1; subst e1; simpa using hm.2
    · exact h.apart k (by simpa using hk) ha
  · refine ⟨by simpa using h.n1, by simpa using h.n10, by simpa using h.ae, h.p6, fun k hk ha => ?_, by simpa using h.per, h.nd⟩
    rw [getD_set hj] at ha
    split at ha
    · cases ha
    · exact h.apart k (by simpa using hk) ha
  · refine ⟨h.n1, h.n10, by simpa using h.ae, h.p6, fun k hk ha => ?_, fun p hp => ?_, h.nd⟩
    · rw [getD_set hje]
      split
      · rename_i e1; subst e1; have := hm.1; simp at ha this; rw [this] at ha; cases ha
      · exact h.apart k hk ha
    · obtain ⟨h1, h2, h3, h4, h5⟩ := h.per p hp
      refine ⟨h1, h2, h3, h4, ?_⟩
      rw [getD_set hje]; split
      · rfl
      · exact h5
  · refine ⟨h.n1, h.n10, by simpa using h.ae, h.p6, fun k hk ha => ?_, fun p hp => ?_, h.nd⟩
    · rw [getD_set hje]
      split
      · rfl
      · exact h.apart k hk ha
    · obtain ⟨h1, h2, h3, h4, h5⟩ := h.per p hp
      refine ⟨h1, h2, h3, h4, ?_⟩
      have hne : p.2 ≠ (j : Int) := held_empty (by simpa using hm.2) p hp
      rw [getD_set hje, if_neg (by omega)]; exact h5
  · refine ⟨h.n1, h.n10, h.ae, by simp; omega, h.apart, fun p hp => ?_, ?_⟩
    · rw [List.mem_append] at hp
      rcases hp with hp | hp
      · exact h.per p hp
      · simp at hp; subst hp
        exact ⟨hm.1.1.2.1, hm.1.1.2.2, hin.1, hin.2, by simpa using hm.1.1.1⟩
    · rw [List.nodup_append]
      refine ⟨h.nd, by simp, fun p hp q hq e1 => ?_⟩
      simp at hq; subst hq; subst e1; exact hm.1.2 hp
  · refine ⟨h.n1, h.n10, h.ae, Nat.le_trans (List.length_erase_le) h.p6, h.apart, fun p hp => h.per p (List.mem_of_mem_erase hp), h.nd.erase _⟩
/-- They change it, and cannot be done again. -/
theorem wk_again {a e : List Bool} {ps : List (Int × Int)} {d : Dd} (h : WkOk a e ps) (hc : canW (a, e, ps) d = true) : canW (doW (a, e, ps) d) d = false ∧ doW (a, e, ps) d ≠ (a, e, ps) := by
  have key : mayW (doW (a, e, ps) d) d = false → canW (doW (a, e, ps) d) d = false ∧ doW (a, e, ps) d ≠ (a, e, ps) := by
    intro hf
    refine ⟨by rw [canW, hf, Bool.and_false], fun e1 => ?_⟩
    rw [e1] at hf
    rw [canW, hf, Bool.and_false] at hc; cases hc
  apply key
  obtain ⟨k, z, x⟩ := d
  rw [canW, Bool.and_eq_true] at hc
  obtain ⟨hin, hm⟩ := hc
  simp only [inW, Bool.and_eq_true, decide_eq_true_eq] at hin
  obtain ⟨j, rfl⟩ := Int.eq_ofNat_of_zero_le hin.1
  have hj : j < a.length := by omega
  have hje : j < e.length := by have := h.ae; omega
  rcases kinds hm with hk | hk | hk | hk | hk | hk
  all_goals
    simp only at hk
    subst hk
  · simp only [mayW, doW, atW, if_true, Int.toNat_natCast]; rw [getD_set hj, if_pos rfl]; rfl
  · simp [mayW, doW, atW, List.getElem?_set, hj]
  · simp [mayW, doW, atW, List.getElem?_set, hje]
  · simp [mayW, doW, atW, List.getElem?_set, hje]
  · simp [mayW, doW]
  · simp only [mayW, doW]
    simp
    exact fun hh => (List.Nodup.mem_erase_iff h.nd).1 hh |>.1 rfl

/-! While somebody works -/
theorem held_back {ps : List (Int × Int)} {z x : Int} (hn : ps.Nodup) (h : (x, z) ∈ ps) : (heldL (ps.erase (x, z)) z).length = (heldL ps z).length - 1 ∧ x ∉ heldL (ps.erase (x, z)) z := by
  constructor
  · rw [heldL, heldL, List.length_map, List.length_map]
    have e : (ps.erase (x, z)).filter (fun p => p.2 == z) = (ps.filter fun p => p.2 == z).erase (x, z) := by
      rw [List.Nodup.erase_eq_filter hn, List.Nodup.erase_eq_filter (hn.filter _), List.filter_filter, List.filter_filter]
      apply List.filter_congr; intro p _; exact Bool.and_comm _ _
    rw [e, List.length_erase_of_mem (List.mem_filter.2 ⟨h, by simp⟩)]
  · intro hh
    have := mem_heldL.1 hh
    exact (List.Nodup.mem_erase_iff hn).1 this |>.1 rfl
theorem held_may {a e : List Bool} {ps : List (Int × Int)} {z x : Int} (h : WkOk a e ps) (hx : (x, z) ∈ ps) : canW (a, e, ps) (0, z, 0) = false ∧ canW (a, e, ps) (3, z, 0) = false ∧ canW (a, e, ps) (5, z, x) = true := by
  obtain ⟨h1, h2, h3, h4, h5⟩ := h.per _ hx
  simp only at h1 h2 h3 h4 h5
  have hne : heldL ps z ≠ [] := fun e1 => by have := mem_heldL.2 hx; rw [e1] at this; cases this
  refine ⟨?_, ?_, ?_⟩
  · simp only [canW, mayW, atW, if_true, h5, Bool.not_true, Bool.and_false]
  · have : (heldL ps z).isEmpty = false := by rw [List.isEmpty_eq_false_iff]; exact hne
    simp [canW, mayW, this]
  · simp [canW, mayW, inW, hx, h3, h4]

/-! Runs -/
def runK : Wk → List Dd → Wk × Nat
  | w, [] => (w, 0)
  | w, d :: r => if canW w d = true then ((runK (doW w d) r).1, (runK (doW w d) r).2 + 1) else runK w r
def workRunF (w : Wk) (ds : List Dd) : Wk × Nat := if wkOk w = true then runK w ds else (([], [], []), 0)
theorem run_okW (ds : List Dd) : ∀ w : Wk, wkOk w = true → wkOk (runK w ds).1 = true := by
  induction ds with
  | nil => intro w h; exact h
  | cons d r ih =>
    intro w h
    rw [runK]; split
    · rename_i hc
      obtain ⟨a, e, ps⟩ := w
      exact ih _ (wk_do (wkOk_iff.1 h) hc)
    · exact ih w h
theorem run_appW (xs ys : List Dd) : ∀ w : Wk, runK w (xs ++ ys) = ((runK (runK w xs).1 ys).1, (runK w xs).2 + (runK (runK w xs).1 ys).2) := by
  induction xs with
  | nil => intro w; simp [runK]
  | cons d r ih =>
    intro w
    rw [List.cons_append, runK, runK]
    split
    · rw [ih]; simp; omega
    · exact ih w
theorem run_snocW {w x : Wk} {n : Nat} {ds : List Dd} {k : Nat} {d : Dd} (h : runK w (ds.take k) = (x, n)) (hk : ds[k]? = some d) : runK w (ds.take (k + 1)) = if canW x d = true then (doW x d, n + 1) else (x, n) := by
  rw [List.take_add_one, hk, Option.toList_some, run_appW, h]
  simp only [runK]
  split <;> simp

/-! How all work ends -/
def earthL (e : List Bool) : List Nat := (List.range e.length).filter fun k => e.getD k false
def offLW (a : List Bool) : List Nat := (List.range a.length).filter fun k => !a.getD k false
def closeL (w : Wk) : List Dd := w.2.2.map (fun p => (5, p.2, p.1)) ++ (earthL w.2.1).map (fun (k : Nat) => (3, (k : Int), 0)) ++ (offLW w.1).map (fun (k : Nat) => (0, (k : Int), 0))
def closeF (w : Wk) : List Dd := if wkOk w = true then closeL w else []
theorem run_returns (ps : List (Int × Int)) : ∀ (a e : List Bool), WkOk a e ps → ∀ rest, runK (a, e, ps) (ps.map (fun p => ((5 : Int), p.2, p.1)) ++ rest) = ((runK (a, e, []) rest).1, ps.length + (runK (a, e, []) rest).2) := by
  induction ps with
  | nil => intro a e _ rest; simp
  | cons p r ih =>
    intro a e h rest
    have hc : canW (a, e, p :: r) (5, p.2, p.1) = true := (held_may h (x := p.1) (z := p.2) (by simp)).2.2
    have hd : doW (a, e, p :: r) (5, p.2, p.1) = (a, e, r) := by simp [doW]
    have hr : WkOk a e r := wkOk_iff.1 (by rw [← hd]; exact wk_do h hc)
    rw [List.map_cons, List.cons_append, runK, if_pos hc, hd, ih a e hr]
    simp; omega
theorem run_clears (js : List Nat) : ∀ (a e : List Bool), WkOk a e [] → js.Nodup → (∀ j ∈ js, j < e.length ∧ e.getD j false = true) → ∀ rest,
    ∃ e', WkOk a e' [] ∧ e'.length = e.length ∧ (∀ k, e'.getD k false = (e.getD k false && !decide (k ∈ js))) ∧ runK (a, e, []) (js.map (fun (k : Nat) => ((3 : Int), (k : Int), (0 : Int))) ++ rest) = ((runK (a, e', []) rest).1, js.length + (runK (a, e', []) rest).2) := by
  induction js with
  | nil => intro a e h _ _ rest; exact ⟨e, h, rfl, fun k => by simp, by simp⟩
  | cons j r ih =>
    intro a e h hn hj rest
    obtain ⟨hjl, hjt⟩ := hj j (by simp)
    have hn2 := List.nodup_cons.1 hn
    have hc : canW (a, e, []) (3, (j : Int), 0) = true := by
      have : (j : Int) < (a.length : Int) := by have := h.ae; omega
      simp [canW, mayW, inW, atW, heldL, this]
      simpa using hjt
    have hd : doW (a, e, []) (3, (j : Int), 0) = (a, e.set j false, []) := by simp [doW]
    have hr : WkOk a (e.set j false) [] := wkOk_iff.1 (by rw [← hd]; exact wk_do h hc)
    obtain ⟨e', h1, h2, h3, h4⟩ := ih a (e.set j false) hr hn2.2 (fun k hk => by
      have hne : k ≠ j := fun e1 => hn2.1 (e1 ▸ hk)
      rw [List.length_set, getD_set hjl, if_neg hne]; exact hj k (by simp [hk])) rest
    refine ⟨e', h1, by rw [h2, List.length_set], fun k => ?_, ?_⟩
    · rw [h3 k, getD_set hjl]
      by_cases hk : k = j
      · subst hk; simp
      · rw [if_neg hk]; simp [hk]
    · rw [List.map_cons, List.cons_append, runK, if_pos hc, hd, h4]; simp; omega
theorem run_ons (js : List Nat) : ∀ (a e : List Bool), WkOk a e [] → js.Nodup → (∀ j ∈ js, j < a.length ∧ a.getD j false = false) → (∀ k, e.getD k false = false) →
    ∃ a', WkOk a' e [] ∧ a'.length = a.length ∧ (∀ k, k < a.length → a'.getD k false = (a.getD k false || decide (k ∈ js))) ∧ runK (a, e, []) (js.map (fun (k : Nat) => ((0 : Int), (k : Int), (0 : Int)))) = ((a', e, []), js.length) := by
  induction js with
  | nil => intro a e h _ _ _; exact ⟨a, h, rfl, fun k _ => by simp, rfl⟩
  | cons j r ih =>
    intro a e h hn hj he
    obtain ⟨hjl, hjt⟩ := hj j (by simp)
    have hn2 := List.nodup_cons.1 hn
    have hc : canW (a, e, []) (0, (j : Int), 0) = true := by
      have : (j : Int) < (a.length : Int) := by omega
      have h2 := he j
      simp [canW, mayW, inW, atW, this]
      exact ⟨by simpa using hjt, by simpa using h2⟩
    have hd : doW (a, e, []) (0, (j : Int), 0) = (a.set j true, e, []) := by simp [doW]
    have hr : WkOk (a.set j true) e [] := wkOk_iff.1 (by rw [← hd]; exact wk_do h hc)
    obtain ⟨a', h1, h2, h3, h4⟩ := ih (a.set j true) e hr hn2.2 (fun k hk => by
      have hne : k ≠ j := fun e1 => hn2.1 (e1 ▸ hk)
      rw [List.length_set, getD_set hjl, if_neg hne]; exact hj k (by simp [hk])) he
    refine ⟨a', h1, by rw [h2, List.length_set], fun k hk => ?_, ?_⟩
    · rw [h3 k (by rw [List.length_set]; exact hk), getD_set hjl]
      by_cases hkj : k = j
      · subst hkj; simp
      · rw [if_neg hkj]; simp [hkj]
    · rw [List.map_cons, runK, if_pos hc, hd, h4]; simp
theorem ext_getDW {us vs : List Bool} (hl : us.length = vs.length) (h : ∀ j, j < us.length → us.getD j false = vs.getD j false) : us = vs := by
  apply List.ext_getElem hl
  intro j h1 h2
  have := h j h1
  rw [List.getD_eq_getElem?_getD, List.getD_eq_getElem?_getD, List.getElem?_eq_getElem h1, List.getElem?_eq_getElem h2] at this
  exact this
/-- All deeds of WorkClose may be done; then every line is on, none is earthed, and there are no permits. -/
theorem run_close {a e : List Bool} {ps : List (Int × Int)} (h : WkOk a e ps) : runK (a, e, ps) (closeL (a, e, ps)) = ((List.replicate a.length true, List.replicate a.length false, []), (closeL (a, e, ps)).length) := by
  have h0 : WkOk a e [] := ⟨h.n1, h.n10, h.ae, by simp, h.apart, fun p hp => (by cases hp), by simp⟩
  have hnd : ∀ (f : Nat → Bool) (n : Nat), ((List.range n).filter f).Nodup := fun f n => List.nodup_range.filter _
  simp only [closeL]
  rw [List.append_assoc, run_returns ps a e h]
  obtain ⟨e', h1, h2, h3, h4⟩ := run_clears (earthL e) a e h0 (hnd _ _) (fun j hj => by
    rw [earthL, List.mem_filter, List.mem_range] at hj; exact hj) ((offLW a).map fun (k : Nat) => ((0 : Int), (k : Int), (0 : Int)))
  rw [h4]
  have he : ∀ k, e'.getD k false = false := fun k => by
    rw [h3 k]
    rcases Bool.eq_false_or_eq_true (e.getD k false) with hk | hk
    · have hkl : k < e.length := by
        rcases Nat.lt_or_ge k e.length with h | h
        · exact h
        · rw [List.getD_eq_getElem?_getD, List.getElem?_eq_none h] at hk; cases hk
      have : k ∈ earthL e := by rw [earthL, List.mem_filter, List.mem_range]; exact ⟨hkl, hk⟩
      simp [this]
    · rw [hk]; rfl
  obtain ⟨a', g1, g2, g3, g4⟩ := run_ons (offLW a) a e' h1 (hnd _ _) (fun j hj => by
    rw [offLW, List.mem_filter, List.mem_range] at hj; exact ⟨hj.1, by simpa using hj.2⟩) he
  rw [g4]
  have ea : a' = List.replicate a.length true := by
    apply ext_getDW (by rw [g2, List.length_replicate])
    intro j hj
    rw [g2] at hj
    rw [g3 j hj, List.getD_eq_getElem?_getD (l := List.replicate _ _), List.getElem?_replicate, if_pos hj]
    rcases Bool.eq_false_or_eq_true (a.getD j false) with hk | hk
    · rw [hk]; rfl
    · have : j ∈ offLW a := by rw [offLW, List.mem_filter, List.mem_range]; exact ⟨hj, by rw [hk]; rfl⟩
      simp [this]
  have ee : e' = List.replicate a.length false := by
    apply ext_getDW (by rw [h2, List.length_replicate, h.ae])
    intro j hj
    rw [he j, List.getD_eq_getElem?_getD, List.getElem?_replicate]
    split <;> rfl
  rw [ea, ee]
  simp only [List.length_append, List.length_map, Prod.mk.injEq, true_and]
  try omega
end Go.Proofs.Ytafgfhjlkdjngaa
