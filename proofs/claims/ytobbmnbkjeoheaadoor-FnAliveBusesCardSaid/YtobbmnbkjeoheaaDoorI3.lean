/- Islands, plain facts for the promises of chapter 3. -/
import Derived.Test.YtobbmnbkjeoheaaDoorI2
namespace Go.Proofs.YtobbmnbkjeoheaaDoor
open Go.RowKit

/-- One line switched: the lines that are on, with it and without it. -/
theorem adj_set {ls : List L3} {ts : List Bool} {k : Nat} {l : L3} (hk : ls[k]? = some l) (hkt : k < ts.length) (x y : Nat) :
    Adj (edgesOn ls (ts.set k true)) x y ↔ Adj (edgesOn ls (ts.set k false)) x y ∨ (x = l.1.toNat ∧ y = l.2.1.toNat) ∨ (x = l.2.1.toNat ∧ y = l.1.toNat) := by
  have key : ∀ e : E2, e ∈ edgesOn ls (ts.set k true) ↔ e ∈ edgesOn ls (ts.set k false) ∨ e = (l.1.toNat, l.2.1.toNat) := by
    intro e
    rw [mem_edgesOn, mem_edgesOn]
    constructor
    · rintro ⟨j, l', h1, h2, rfl⟩
      by_cases hj : k = j
      · subst hj
        rw [hk] at h1; injection h1 with h1; subst h1
        exact .inr rfl
      · refine .inl ⟨j, l', h1, ?_, rfl⟩
        rw [List.getElem?_set_ne hj] at h2 ⊢; exact h2
    · rintro (⟨j, l', h1, h2, rfl⟩ | rfl)
      · refine ⟨j, l', h1, ?_, rfl⟩
        by_cases hj : k = j
        · subst hj
          rw [List.getElem?_set_self hkt] at h2; cases h2
        · rw [List.getElem?_set_ne hj] at h2 ⊢; exact h2
      · exact ⟨k, l, hk, List.getElem?_set_self hkt, rfl⟩
  unfold Adj
  rw [key, key]
  simp only [Prod.mk.injEq]
  constructor
  · rintro ((h | ⟨h1, h2⟩) | (h | ⟨h1, h2⟩))
    · exact .inl (.inl h)
    · exact .inr (.inl ⟨h1, h2⟩)
    · exact .inl (.inr h)
    · exact .inr (.inr ⟨h2, h1⟩)
  · rintro ((h | h) | ⟨h1, h2⟩ | ⟨h1, h2⟩)
    · exact .inl (.inl h)
    · exact .inr (.inl h)
    · exact .inl (.inr ⟨h1, h2⟩)
    · exact .inr (.inr ⟨h2, h1⟩)
theorem heads_cnt (es : List E2) (nb : Nat) : (heads es nb).length = cntF es nb := by rw [heads, cntF, List.countP_eq_length_filter]
/-- P1: a switch joins two islands or none. -/
theorem heads_switch {bs : Int} {ls : List L3} {ts : List Bool} {k : Nat} {l : L3} (hv : netOk bs ls = true) (hk : ls[k]? = some l) (hkt : k < ts.length) :
    ((heads (edgesOn ls (ts.set k false)) bs.toNat).length : Int) - ((heads (edgesOn ls (ts.set k true)) bs.toNat).length : Int) = if connB (edgesOn ls (ts.set k false)) l.1.toNat l.2.1.toNat = true then 0 else 1 := by
  have h2 := netOk_line hv hk
  simp [lineOk, inB] at h2
  obtain ⟨c1, c2⟩ := cntF_more (nb := bs.toNat) (adj_set hk hkt) (by omega) (by omega)
  rw [heads_cnt, heads_cnt]
  split
  · rename_i h; have := c1 (connB_iff.1 h); omega
  · rename_i h; have := c2 (fun e => h (connB_iff.2 e)); omega

/-- Each bus is counted at one place. -/
theorem count_each (f : Nat → Nat) (n : Nat) : ∀ m : Nat, (∀ b, b < m → f b < n) → (((List.range n).map fun h => (List.range m).countP fun b => f b == h).sum) = m
  | 0, _ => by
    have : ∀ n : Nat, ((List.range n).map fun _ => 0).sum = 0 := fun n => by
      induction n with
      | zero => rfl
      | succ n ih => rw [List.range_succ, List.map_append, List.sum_append, ih]; rfl
    simpa using this n
  | m + 1, hf => by
    have ih := count_each f n m (fun b hb => hf b (by omega))
    have hfm := hf m (by omega)
    have one : ∀ n : Nat, f m < n → ((List.range n).map fun h => if f m = h then 1 else 0).sum = 1 := by
      intro n
      induction n with
      | zero => intro h; omega
      | succ n ih =>
        intro h
        rw [List.range_succ, List.map_append, List.sum_append]
        by_cases he : f m = n
        · have : ∀ j : Nat, j ≤ n → ((List.range j).map fun h => if f m = h then 1 else 0).sum = 0 := fun j => by
            induction j with
            | zero => intro _; rfl
            | succ j ih2 =>
              intro hj
              rw [List.range_succ, List.map_append, List.sum_append, ih2 (by omega)]
              simp; omega
          have := this n (Nat.le_refl _)
          rw [this]; simp [he]
        · rw [ih (by omega)]; simp [he]
    have split : ((List.range n).map fun h => (List.range (m + 1)).countP fun b => f b == h).sum = ((List.range n).map fun h => (List.range m).countP fun b => f b == h).sum + ((List.range n).map fun h => if f m = h then 1 else 0).sum := by
      clear ih hfm one hf
      induction n with
      | zero => simp
      | succ n ih =>
        rw [List.range_succ (n := n), List.map_append, List.map_append, List.map_append, List.sum_append, List.sum_append, List.sum_append, ih, List.range_succ (n := m)]
        simp only [List.map_cons, List.map_nil, List.sum_cons, List.sum_nil, List.countP_append, List.countP_cons, List.countP_nil, Nat.zero_add, beq_iff_eq]
        omega
    rw [split, ih, one n hfm]
theorem sum_filter (f : Nat → Nat) (p : Nat → Bool) (hp : ∀ h, p h = false → f h = 0) : ∀ n : Nat, (((List.range n).filter p).map f).sum = ((List.range n).map f).sum
  | 0 => by simp
  | n + 1 => by
    rw [List.range_succ, List.filter_append, List.map_append, List.map_append, List.sum_append, List.sum_append, sum_filter f p hp n]
    congr 1
    by_cases h : p n = true
    · simp [h]
    · rw [Bool.not_eq_true] at h; simp [h, hp n h]
/-- P72: the islands have together as many buses as the network. -/
theorem heads_sum (es : List E2) (nb : Nat) : ((heads es nb).map fun h => (reachF es nb h).length).sum = nb := by
  have e1 : ∀ h ∈ heads es nb, (reachF es nb h).length = (List.range nb).countP fun b => leastF es b == h := by
    intro h hh
    rw [heads, List.mem_filter] at hh
    have hl : leastF es h = h := by simpa using hh.2
    rw [reachF, ← List.countP_eq_length_filter]
    apply List.countP_congr
    intro b _
    rw [connB_iff, beq_iff_eq]
    constructor
    · intro k; rw [← hl, leastF_eq]; exact k.symm
    · intro k; rw [← leastF_eq, hl, k]
  rw [List.map_congr_left e1, heads, sum_filter (fun h => (List.range nb).countP fun b => leastF es b == h) _ ?_ nb]
  · exact count_each (leastF es) nb nb (fun b hb => leastF_lt hb)
  · intro h hh
    rw [List.countP_eq_zero]
    intro b _ hb
    have hb' : leastF es b = h := by simpa using hb
    have := leastF_self hb'
    simp [this] at hh
theorem mem_heads {es : List E2} {nb h : Nat} : h ∈ heads es nb ↔ h < nb ∧ leastF es h = h := by
  rw [heads, List.mem_filter, List.mem_range, beq_iff_eq]
/-- The buses of an island have its head for their number. -/
theorem reach_least {es : List E2} {nb h b : Nat} (hh : leastF es h = h) (hb : b ∈ reachF es nb h) : leastF es b = h := by
  rw [← hh, leastF_eq]; exact (mem_reachF.1 hb).2.symm
theorem range_filter_ascend (p : Nat → Bool) (n : Nat) : ((List.range n).filter p).Pairwise (· < ·) := List.Pairwise.filter _ List.pairwise_lt_range
theorem reachF_ascend (es : List E2) (nb bus : Nat) : (reachF es nb bus).Pairwise (· < ·) := range_filter_ascend _ _
theorem reachF_self {es : List E2} {nb bus : Nat} (h : bus < nb) : bus ∈ reachF es nb bus := mem_reachF.2 ⟨h, Conn.refl _⟩
end Go.Proofs.YtobbmnbkjeoheaaDoor
