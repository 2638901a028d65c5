/- Switching orders, plain facts (no program): running orders, undoing them, the order from one state to another. -/
import Derived.Test.YtfedffekbemcoaaDoorOr0
import Derived.Test.YtfedffekbemcoaaDoorM2
import Derived.Test.YtfedffekbemcoaaDoorBCA
namespace Go.Proofs.YtfedffekbemcoaaDoor
open Go.RowKit

/-- The state after the steps that can be done, and how many these are. -/
def goO : List Bool → List TP → List Bool × Nat
  | ts, [] => (ts, 0)
  | ts, p :: r => if ts[p.1.toNat]? = some (!p.2) then ((goO (ts.set p.1.toNat p.2) r).1, (goO (ts.set p.1.toNat p.2) r).2 + 1) else (ts, 0)
def flipO (p : TP) : TP := (p.1, !p.2)
def backO (ss : List TP) : List TP := (ss.map flipO).reverse
def backF (ss : List TP) : List TP := if ordOk ss = true then backO ss else []
theorem goO_len (ss : List TP) : ∀ ts, (goO ts ss).1.length = ts.length := by
  induction ss with
  | nil => intro ts; rfl
  | cons p r ih =>
    intro ts; rw [goO]; split
    · simp [ih]
    · rfl
theorem goO_many (ss : List TP) : ∀ ts, (goO ts ss).2 ≤ ss.length := by
  induction ss with
  | nil => intro ts; simp [goO]
  | cons p r ih =>
    intro ts; rw [goO]; split
    · have := ih (ts.set p.1.toNat p.2); simp; omega
    · simp
theorem goO_app (xs bs : List TP) : ∀ ts, (goO ts xs).2 = xs.length → goO ts (xs ++ bs) = ((goO (goO ts xs).1 bs).1, xs.length + (goO (goO ts xs).1 bs).2) := by
  induction xs with
  | nil => intro ts _; simp [goO]
  | cons p r ih =>
    intro ts h
    rw [goO] at h
    split at h
    · rename_i hp
      have h2 : (goO (ts.set p.1.toNat p.2) r).2 = r.length := by simpa using h
      rw [List.cons_append, goO, if_pos hp, goO, if_pos hp, ih _ h2]
      simp; omega
    · simp at h
theorem goO_take (ss : List TP) : ∀ ts, goO ts (ss.take (goO ts ss).2) = goO ts ss := by
  induction ss with
  | nil => intro ts; rfl
  | cons p r ih =>
    intro ts
    by_cases hp : ts[p.1.toNat]? = some (!p.2)
    · have e : goO ts (p :: r) = ((goO (ts.set p.1.toNat p.2) r).1, (goO (ts.set p.1.toNat p.2) r).2 + 1) := by rw [goO, if_pos hp]
      rw [e, List.take_succ_cons, goO, if_pos hp, ih]
    · have e : goO ts (p :: r) = (ts, 0) := by rw [goO, if_neg hp]
      rw [e]; rfl
theorem backO_len (ss : List TP) : (backO ss).length = ss.length := by simp [backO]
theorem backO_back (ss : List TP) : backO (backO ss) = ss := by
  rw [backO, backO, List.map_reverse, List.reverse_reverse, List.map_map]
  conv => rhs; rw [← List.map_id ss]
  exact List.map_congr_left fun p _ => by simp [flipO]
theorem goO_back (ss : List TP) : ∀ ts, goO (goO ts ss).1 (backO (ss.take (goO ts ss).2)) = (ts, (goO ts ss).2) := by
  induction ss with
  | nil => intro ts; rfl
  | cons p r ih =>
    intro ts
    by_cases hp : ts[p.1.toNat]? = some (!p.2)
    · have e : goO ts (p :: r) = ((goO (ts.set p.1.toNat p.2) r).1, (goO (ts.set p.1.toNat p.2) r).2 + 1) := by rw [goO, if_pos hp]
      have h1 := ih (ts.set p.1.toNat p.2)
      have hm := goO_many r (ts.set p.1.toNat p.2)
      rw [e, List.take_succ_cons]
      simp only
      have e2 : backO (p :: r.take (goO (ts.set p.1.toNat p.2) r).2) = backO (r.take (goO (ts.set p.1.toNat p.2) r).2) ++ [flipO p] := by simp [backO]
      have hl : (backO (r.take (goO (ts.set p.1.toNat p.2) r).2)).length = (goO (ts.set p.1.toNat p.2) r).2 := by rw [backO_len, List.length_take]; omega
      rw [e2, goO_app _ _ _ (by rw [h1, hl]), h1, hl]
      obtain ⟨hlt, he⟩ := List.getElem?_eq_some_iff.1 hp
      have h3 : goO (ts.set p.1.toNat p.2) [flipO p] = (ts, 1) := by
        rw [goO]
        have : (ts.set p.1.toNat p.2)[(flipO p).1.toNat]? = some (!(flipO p).2) := by
          simp [flipO, hlt]
        rw [if_pos this, goO]
        simp only [flipO, List.set_set, Prod.mk.injEq]
        refine ⟨?_, trivial⟩
        rw [← he]; exact List.set_getElem_self hlt
      rw [h3]
    · have e : goO ts (p :: r) = (ts, 0) := by rw [goO, if_neg hp]
      rw [e]; rfl
theorem ordOk_take {ss : List TP} (h : ordOk ss = true) (k : Nat) : ordOk (ss.take k) = true := by
  rw [ordOk_iff] at *
  exact ⟨fun p hp => h.1 p (List.mem_of_mem_take hp), by rw [List.length_take]; omega⟩
theorem ordOk_drop {ss : List TP} (h : ordOk ss = true) (k : Nat) : ordOk (ss.drop k) = true := by
  rw [ordOk_iff] at *
  exact ⟨fun p hp => h.1 p (List.mem_of_mem_drop hp), by rw [List.length_drop]; omega⟩
theorem ordOk_back {ss : List TP} (h : ordOk ss = true) : ordOk (backO ss) = true := by
  rw [ordOk_iff] at *
  refine ⟨fun p hp => ?_, by rw [backO_len]; exact h.2⟩
  simp only [backO, List.mem_reverse, List.mem_map] at hp
  obtain ⟨q, hq, rfl⟩ := hp
  exact h.1 q hq
/-- The run of an order at a state. -/
def runO (bs : Int) (ls : List L3) (ts : List Bool) (ss : List TP) : List Bool × Nat := if stOk bs ls ts.length && ordOk ss then goO ts ss else ([], 0)
theorem runO_len (bs : Int) (ls : List L3) (ts : List Bool) (ss : List TP) : (runO bs ls ts ss).1.length ≤ ts.length := by
  rw [runO]; split
  · rw [goO_len]; exact Nat.le_refl _
  · simp
/-- While an order runs: k steps are done. -/
def goAt (ts : List Bool) (ss : List TP) (k : Nat) (us : List Bool) : Prop := us.length = ts.length ∧ goO ts ss = ((goO us (ss.drop k)).1, k + (goO us (ss.drop k)).2)
theorem goAt_start (ts : List Bool) (ss : List TP) : goAt ts ss 0 ts := ⟨rfl, by simp⟩
theorem goAt_next {ts us : List Bool} {ss : List TP} {k : Nat} {p : TP} (h : goAt ts ss k us) (hk : ss[k]? = some p) (hp : us[p.1.toNat]? = some (!p.2)) : goAt ts ss (k + 1) (us.set p.1.toNat p.2) := by
  have e : ss.drop k = p :: ss.drop (k + 1) := by
    obtain ⟨hlt, he⟩ := List.getElem?_eq_some_iff.1 hk
    rw [← he, List.getElem_cons_drop]
  refine ⟨by simpa using h.1, ?_⟩
  rw [h.2, e, goO, if_pos hp]
  simp; omega
theorem goAt_stop {ts us : List Bool} {ss : List TP} {k : Nat} {p : TP} (h : goAt ts ss k us) (hk : ss[k]? = some p) (hp : us[p.1.toNat]? ≠ some (!p.2)) : goO ts ss = (us, k) := by
  have e : ss.drop k = p :: ss.drop (k + 1) := by
    obtain ⟨hlt, he⟩ := List.getElem?_eq_some_iff.1 hk
    rw [← he, List.getElem_cons_drop]
  rw [h.2, e, goO, if_neg hp]
  simp
theorem goAt_end {ts us : List Bool} {ss : List TP} {k : Nat} (h : goAt ts ss k us) (hk : ss.length ≤ k) : goO ts ss = (us, k) := by
  rw [h.2, List.drop_of_length_le hk]; simp [goO]

/-! From one state to another -/
def onB (b : List Bool) (z : Int) : Bool := b.getD z.toNat false
def offL (b : List Bool) (zs : List Int) : List TP := (zs.filter fun z => !onB b z).map fun z => (z, false)
def onL (b : List Bool) (zs : List Int) : List TP := (zs.filter fun z => onB b z).map fun z => (z, true)
def toO (a b : List Bool) : List TP := if a.length ≤ 10 then offL b (chF a b) ++ onL b (chF a b) else []
theorem offL_snoc (b : List Bool) (zs : List Int) (z : Int) : offL b (zs ++ [z]) = if onB b z then offL b zs else offL b zs ++ [(z, false)] := by
  simp only [offL, List.filter_append, List.map_append, List.filter_cons, List.filter_nil]
  cases onB b z <;> simp
theorem onL_snoc (b : List Bool) (zs : List Int) (z : Int) : onL b (zs ++ [z]) = if onB b z then onL b zs ++ [(z, true)] else onL b zs := by
  simp only [onL, List.filter_append, List.map_append, List.filter_cons, List.filter_nil]
  cases onB b z <;> simp
theorem offL_len (b : List Bool) (zs : List Int) : (offL b zs).length ≤ zs.length := by rw [offL, List.length_map]; exact List.length_filter_le _ _
theorem onL_len (b : List Bool) (zs : List Int) : (onL b zs).length ≤ zs.length := by rw [onL, List.length_map]; exact List.length_filter_le _ _
theorem toO_len2 (b : List Bool) (zs : List Int) : (offL b zs).length + (onL b zs).length = zs.length := by
  rw [offL, onL, List.length_map, List.length_map]
  induction zs with
  | nil => rfl
  | cons z zs ih => rw [List.filter_cons, List.filter_cons]; cases onB b z <;> simp <;> omega
theorem toO_len (a b : List Bool) : (toO a b).length ≤ 10 := by
  rw [toO]; split
  · rw [List.length_append, toO_len2]; exact Nat.le_trans (chF_len a b) (by assumption)
  · simp
theorem chTo_at {a b : List Bool} {k : Nat} {z : Int} (h : z ∈ chTo a b k) : ∃ j : Nat, z = (j : Int) ∧ j < k ∧ a.getD j false ≠ b.getD j false := by
  simp only [chTo, List.mem_map, List.mem_filter, List.mem_range] at h
  obtain ⟨j, ⟨h1, h2⟩, rfl⟩ := h
  exact ⟨j, rfl, h1, by simpa using h2⟩
theorem chF_at {a b : List Bool} {z : Int} (h : z ∈ chF a b) : a.length = b.length ∧ ∃ j : Nat, z = (j : Int) ∧ j < a.length ∧ a.getD j false ≠ b.getD j false := by
  rw [chF] at h; split at h
  · rename_i e; exact ⟨e, chTo_at h⟩
  · cases h
/-- Steps of different lines, each of which changes its line, are all done. -/
theorem goO_all (ss : List TP) : ∀ ts : List Bool, (ss.map (·.1)).Nodup → (∀ p ∈ ss, 0 ≤ p.1 ∧ ts[p.1.toNat]? = some (!p.2)) → (goO ts ss).2 = ss.length ∧ ∀ j : Nat, (goO ts ss).1[j]? = ((ss.find? fun p => p.1 == (j : Int)).map (·.2)).or ts[j]? := by
  induction ss with
  | nil => intro ts _ _; exact ⟨rfl, fun j => by simp [goO]⟩
  | cons p r ih =>
    intro ts hn ht
    rw [List.map_cons, List.nodup_cons] at hn
    obtain ⟨hp0, hp⟩ := ht p (by simp)
    obtain ⟨hlt, _⟩ := List.getElem?_eq_some_iff.1 hp
    have hr : ∀ q ∈ r, 0 ≤ q.1 ∧ (ts.set p.1.toNat p.2)[q.1.toNat]? = some (!q.2) := by
      intro q hq
      obtain ⟨h0, h1⟩ := ht q (by simp [hq])
      refine ⟨h0, ?_⟩
      rw [List.getElem?_set_ne, h1]
      intro e
      apply hn.1
      rw [List.mem_map]; exact ⟨q, hq, by omega⟩
    obtain ⟨h1, h2⟩ := ih _ hn.2 hr
    rw [goO, if_pos hp]
    refine ⟨by simp [h1], fun j => ?_⟩
    simp only
    rw [h2 j, List.find?_cons]
    by_cases hj : p.1 = (j : Int)
    · have hb : (p.1 == (j : Int)) = true := by simpa using hj
      have hf : (r.find? fun q => q.1 == (j : Int)) = none := by
        rw [List.find?_eq_none]; intro q hq e
        apply hn.1
        rw [List.mem_map]; exact ⟨q, hq, by simp at e; omega⟩
      rw [hb, hf]
      have : p.1.toNat = j := by omega
      simp [← this, hlt]
    · have hb : (p.1 == (j : Int)) = false := by simpa using hj
      rw [hb]
      have : p.1.toNat ≠ j := by omega
      rw [List.getElem?_set_ne this]
theorem nodup_of_asc {zs : List Int} (h : zs.Pairwise (· < ·)) : zs.Nodup := h.imp fun h => by omega
theorem toO_ok {a b : List Bool} (h : a.length ≤ 10) : ordOk (toO a b) = true := by
  rw [ordOk_iff]
  refine ⟨fun p hp => ?_, Nat.le_trans (toO_len a b) (by omega)⟩
  rw [toO, if_pos h, List.mem_append] at hp
  have : p.1 ∈ chF a b := by
    rcases hp with hp | hp
    all_goals
      simp only [offL, onL, List.mem_map, List.mem_filter] at hp
      obtain ⟨z, hz, rfl⟩ := hp
      exact hz.1
  obtain ⟨_, j, e, hj, _⟩ := chF_at this
  omega
theorem toO_goes {a b : List Bool} (hl : a.length = b.length) (h : a.length ≤ 10) : goO a (toO a b) = (b, (chF a b).length) := by
  have hmem : ∀ p ∈ toO a b, p.1 ∈ chF a b ∧ p.2 = onB b p.1 := by
    intro p hp
    rw [toO, if_pos h, List.mem_append] at hp
    rcases hp with hp | hp
    all_goals
      simp only [offL, onL, List.mem_map, List.mem_filter] at hp
      obtain ⟨z, hz, rfl⟩ := hp
      refine ⟨hz.1, ?_⟩
      have := hz.2
      simp_all
  have hnd : ((toO a b).map (·.1)).Nodup := by
    have e : (toO a b).map (·.1) = ((chF a b).filter fun z => !onB b z) ++ ((chF a b).filter fun z => onB b z) := by
      rw [toO, if_pos h, List.map_append, offL, onL, List.map_map, List.map_map]
      simp [Function.comp_def]
    have hn := nodup_of_asc (chF_asc a b)
    rw [e, List.nodup_append]
    refine ⟨hn.filter _, hn.filter _, ?_⟩
    intro x hx y hy e
    subst e
    simp only [List.mem_filter] at hx hy
    have h1 := hx.2; have h2 := hy.2
    rw [h2] at h1; simp at h1
  have hall : ∀ p ∈ toO a b, 0 ≤ p.1 ∧ a[p.1.toNat]? = some (!p.2) := by
    intro p hp
    obtain ⟨h1, h2⟩ := hmem p hp
    obtain ⟨_, j, e, hj, hne⟩ := chF_at h1
    have ej : p.1.toNat = j := by omega
    refine ⟨by omega, ?_⟩
    rw [h2, onB, ej, getD_lt hj]
    revert hne
    cases a.getD j false <;> cases b.getD j false <;> simp
  obtain ⟨h1, h2⟩ := goO_all _ a hnd hall
  have hlen : (toO a b).length = (chF a b).length := by rw [toO, if_pos h, List.length_append, toO_len2]
  refine Prod.ext ?_ (by rw [h1, hlen])
  simp only
  apply ext_getD (by rw [goO_len, hl])
  intro j hj
  rw [goO_len] at hj
  rw [List.getD_eq_getElem?_getD, h2 j]
  rcases hf : (toO a b).find? fun p => p.1 == (j : Int) with _ | p
  · rw [hf]
    simp only [Option.map_none, Option.none_or]
    rw [← List.getD_eq_getElem?_getD]
    by_cases e : a.getD j false = b.getD j false
    · exact e
    · exfalso
      have hz : (j : Int) ∈ chF a b := by
        rw [chF, if_pos hl, chTo, List.mem_map]
        exact ⟨j, by rw [List.mem_filter, List.mem_range]; exact ⟨hj, by simpa using e⟩, rfl⟩
      rw [List.find?_eq_none] at hf
      have : ((j : Int), onB b (j : Int)) ∈ toO a b := by
        rw [toO, if_pos h, List.mem_append]
        rcases ho : onB b (j : Int) with _ | _
        · exact .inl (by simp only [offL, List.mem_map, List.mem_filter]; exact ⟨_, ⟨hz, by simp [ho]⟩, rfl⟩)
        · exact .inr (by simp only [onL, List.mem_map, List.mem_filter]; exact ⟨_, ⟨hz, ho⟩, rfl⟩)
      exact hf _ this (by simp)
  · have h3 := List.find?_some hf
    have h4 := List.mem_of_find?_eq_some hf
    obtain ⟨_, h5⟩ := hmem p h4
    have h6 : p.1 = (j : Int) := by simpa using h3
    rw [h6] at h5
    rw [hf]
    simp [h5, onB]
end Go.Proofs.YtfedffekbemcoaaDoor
